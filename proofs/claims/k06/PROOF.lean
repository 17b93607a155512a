import PyProof.Rows.All
import Wide.All
import OpenK.AllK
import Wide.FinOn
import HandS.ForMost
import HandS.Wide
import HandS.Style
import HandS.Small
import HandS.TupAny
import HandS.IsInst
import HandS.CallLocal
import HandS.Evl
import HandS.More
import HandS.WrittenGet
import HandS.SetBool
import HandS.Strs
import HandS.Zip
import HandS.Star
import KE.GoesZip
import KE.GoesMore
import PyProof.EnumMake
import PyProof.WalksEnum
import PyProof.ReprRoads
import PyProof.ReprLen
import HandS.SetFor
import KE.DataMinMax
import PyProof.Rows.SortShellAny
import HandS.WideBits
import HandS.TupMul
import HandS.GenYield
import HandS.GenCall
import HandS.GenList
import HandS.Defaults
import KE.KxField
import HandS.FStr
import KE.KSortTupG
import HandS.Sort
import PySem.Challenge.RW_restitch_k06_listings_and_names
set_option Elab.async false
set_option linter.all false
set_option maxRecDepth 100000
set_option maxHeartbeats 4000000
namespace Co
open PySem PySem.Spec PyProof.Rows L2
def rIntQ : List V → Hp → VK → Prop := fun xs H Q => (∃ i, xs = [.int i] ∧ Q (.int i) H) ∨ ∃ k, xs = [.bl k] ∧ Q (.int (if k then 1 else 0)) H
theorem call_intQ {X : Cx} : CallR X (.type "int") rIntQ := call_int1
def rAbsQ : List V → Hp → VK → Prop := fun xs H Q => ∃ i, xs = [.int i] ∧ Q (.int (if i < 0 then -i else i)) H
theorem call_absQ {X : Cx} : CallR X (.builtin "abs") rAbsQ := call_abs
def rLenQ (K : PySem.W.Frag) : List V → Hp → VK → Prop := fun xs H Q => ∃ p ys, xs = [.ref p] ∧ (SqL K H p ys ∨ SqT K H p ys) ∧ Q (.int (ys.length : Int)) H
theorem call_lenQ {X : Cx} : CallR X (.builtin "len") (rLenQ X.K) := call_len_seq
structure Cd (P : Program) (w : World) (K : PySem.W.Frag) (mg : Str → Option Value) (base : Heap) (k : Nat) (x : Str) (sp : Sp) : Prop where
  ex : ∃ (f : Addr) (fd : FuncData) (ps : List Str), FnOk P w K mg base CX0 k f fd ps sp ∧ mg x = some (.ref f) ∧ PySem.W.keepIn K (.ref f) = true ∧ Binds K fd ps []
def GV (mg : Str → Option Value) (x : Str) (v : V) : Prop := ∃ u, mg x = some u ∧ RelV v u
def tC1 (sp : Sp) (t : TA) : TE := fun σ H Q => t σ H fun vs H1 => sp vs H1 Q E0
section
variable {X : Cx} {k j : Nat} {x : Str} {sp : Sp} {p pos : Pos} {e : Expr} {es : List Expr} {t : TA}
theorem pe_gv {v : V} (hg : Gl X x) (h : GV X.mg x v) (hd : (x == ("__debug__" : Str)) = false := by decide) : PE X (.Name x pos) (tC v) := by
  obtain ⟨u, hm, r⟩ := h
  exact pe_glob hg hm r hd
theorem pe_cd (c : Cd X.prog X.w X.K X.mg X.base k x sp) (hr : Room j X.A) (hk : k ≤ j) (hg : Gl X x) (ha : PA X (e :: es) t)
    (hdb : (x == ("__debug__" : Str)) = false := by decide) (he : starEach (e :: es) X.env = (false, eval e X.env) :: starEach es X.env := by rfl) (hpl : (backTo pos (starEach es X.env)).any (·.1) = false := by rfl) :
    PE X (.Call (.Name x p) (e :: es) [] pos) (tC1 sp t) := by
  obtain ⟨f, fd, ps, F, hm, kp, b⟩ := c.ex
  have z := pe_call (dvs := []) (pos := pos) (p := p) F (hr.mono hk) hg hm kp b .nil pass0 ha hdb he hpl
  refine ⟨fun pins s σ H Q I h => z.run pins s σ H Q I ?_⟩
  show t σ H fun vs H1 => sp (vs ++ []) H1 Q E0
  simp only [List.append_nil]
  exact h
theorem pe_cd0 (c : Cd X.prog X.w X.K X.mg X.base k x sp) (hr : Room j X.A) (hk : k ≤ j) (hg : Gl X x)
    (hdb : (x == ("__debug__" : Str)) = false := by decide) :
    PE X (.Call (.Name x p) [] [] pos) (tC1 sp tNil) := by
  obtain ⟨f, fd, ps, F, hm, kp, b⟩ := c.ex
  exact pe_call0 (dvs := []) (pos := pos) (p := p) F (hr.mono hk) hg hm kp b .nil pass0 hdb
end

/-! ### readings, step by step, from behind -/
def kTup (Q : VK) : List V → Hp → Prop := fun xs H1 => xs.length ≤ sizeLine ∧ ∀ p, H1 p = none → Q (.ref p) (upd H1 p (.tup xs))
def kLst (Q : VK) : List V → Hp → Prop := fun xs H1 => xs.length ≤ sizeLine ∧ ∀ p, H1 p = none → Q (.ref p) (upd H1 p (.lst xs))
def kFor (g : TG) (tb : TS) (D : Ends) (σ : L2.St) : It → Hp → Prop := fun J H1 => ∃ W : Nat → Nat → L2.St → Hp → Prop, (∃ m, W 0 m σ H1) ∧ ∀ i m σ H, W i m σ H →
  (J.stop i H ∧ D.nx σ H) ∨ (J.go i H ∧ ∃ N : L2.St → Hp → Prop, (∀ σ' H', N σ' H' → ∃ m', m' < m ∧ W (i + 1) m' σ' H') ∧ ∀ x H', J.yld i H x H' → g x σ H' fun σ2 H2 => tb { D with nx := N, ct := N, bk := D.nx } σ2 H2)
def kIL (K : PySem.W.Frag) (R : It → Hp → Prop) : V → Hp → Prop := fun x H1 => ∃ a, x = .ref a ∧ (∃ xs, SqL K H1 a xs) ∧ R (Itl K a) H1
def kIT (K : PySem.W.Frag) (R : It → Hp → Prop) : V → Hp → Prop := fun x H1 => ∃ a, x = .ref a ∧ (∃ xs, SqT K H1 a xs) ∧ R (Itt K a) H1
def kR1 (R : It → Hp → Prop) : List V → Hp → Prop := fun vs H1 => ∃ j : Int, vs = [.int j] ∧ -(2 ^ 62) ≤ j ∧ j < 2 ^ 62 ∧ R (Itr 0 j.toNat) H1
def kR2 (R : It → Hp → Prop) : List V → Hp → Prop := fun vs H1 => ∃ i j : Int, vs = [.int i, .int j] ∧ (-(2 ^ 62) ≤ i ∧ i < 2 ^ 62 ∧ -(2 ^ 62) ≤ j ∧ j < 2 ^ 62) ∧ R (Itr i (j - i).toNat) H1
def kLc (g : TG) (tt : TT) (te : TE) (vs : List Nat) (σ : L2.St) (Q : VK) : It → Hp → Prop := fun J H1 => ∀ D, H1 D = none → ∃ W : Nat → Nat → Hp → Prop, (∃ m, W 0 m (upd H1 D (.lst []))) ∧ ∀ i m H, W i m H →
  (J.stop i H ∧ Q (.ref D) H) ∨ (J.go i H ∧ ∃ Nx : Hp → Prop, (∀ H', Nx H' → ∃ m', m' < m ∧ W (i + 1) m' H') ∧ ∀ x H', J.yld i H x H' → g x (wipe σ vs) H' fun σ2 H2 => wipe σ2 vs = wipe σ vs ∧ tt σ2 H2 fun b H3 =>
    if b = true then te σ2 H3 fun y H4 => ∃ acc, H4 D = some (.lst acc) ∧ acc.length < sizeLine ∧ Nx (upd H4 D (.lst (acc ++ [y]))) else Nx H3)
section
variable {σ : L2.St} {H : Hp} {Q : VK} {D : Ends} {ta tb te : TE} {tt tu : TT} {t u : TS} {g : TG} {v x y : V} {i j : Int} {n : Nat} {E : XK}
theorem w_var (h : σ[n]? = some (some v)) (q : Q v H) : tVar n σ H Q := ⟨v, h, q⟩
theorem w_c (q : Q v H) : tC v σ H Q := q
theorem w_op {r : R2} (q : ta σ H fun x H1 => tb σ H1 fun y H2 => r x y H2 Q) : tOp r ta tb σ H Q := q
theorem w_un {r : V → Hp → VK → Prop} (q : ta σ H fun x H1 => r x H1 Q) : tUn r ta σ H Q := q
theorem w_I0 {f : Int → Int → V} (q : Q (f i j) H) : rI0 f (.int i) (.int j) H Q := ⟨i, j, rfl, rfl, q⟩
theorem w_I {C : Int → Int → Prop} {f : Int → Int → V} (c : C i j) (q : Q (f i j) H) : rI C f (.int i) (.int j) H Q := ⟨i, j, rfl, rfl, c, q⟩
theorem w_U {f : Int → V} (q : Q (f i) H) : rU f (.int i) H Q := ⟨i, rfl, q⟩
theorem w_eq (h : scal x y = true) (q : Q (.bl (decide (x = y))) H) : rEq x y H Q := ⟨h, q⟩
theorem w_ne (h : scal x y = true) (q : Q (.bl (!decide (x = y))) H) : rNe x y H Q := ⟨h, q⟩
theorem w_eqI (q : Q (.bl (decide (i = j))) H) : rEq (.int i) (.int j) H Q := ⟨rfl, by
  have e : (decide (V.int i = V.int j)) = decide (i = j) := by
    by_cases h : i = j
    · subst h; simp
    · rw [decide_eq_false h, decide_eq_false (fun z => h (V.int.inj z))]
  rw [e]; exact q⟩
theorem w_neI (q : Q (.bl (!decide (i = j))) H) : rNe (.int i) (.int j) H Q := ⟨rfl, by
  have e : (decide (V.int i = V.int j)) = decide (i = j) := by
    by_cases h : i = j
    · subst h; simp
    · rw [decide_eq_false h, decide_eq_false (fun z => h (V.int.inj z))]
  rw [e]; exact q⟩
theorem w_test {Q : Bool → Hp → Prop} (q : ta σ H fun x H' => ∃ k, x = .bl k ∧ Q k H') : tTest ta σ H Q := q
theorem w_B {Q : Bool → Hp → Prop} (q : ta σ H fun x H' => ∃ k, x = .bl k ∧ Q k H') : tB ta σ H Q := q
theorem w_bl {b : Bool} {Q : Bool → Prop} (q : Q b) : ∃ k, V.bl b = .bl k ∧ Q k := ⟨b, rfl, q⟩
theorem w_if (q : tt σ H fun c H1 => if c = true then ta σ H1 Q else tb σ H1 Q) : tIf tt ta tb σ H Q := q
theorem w_andT {Q : Bool → Hp → Prop} (q : tt σ H fun c H1 => if c = true then tu σ H1 Q else Q false H1) : tAnd tt tu σ H Q := q
theorem w_orT {Q : Bool → Hp → Prop} (q : tt σ H fun c H1 => if c = true then Q true H1 else tu σ H1 Q) : tOr tt tu σ H Q := q
theorem w_notT {Q : Bool → Hp → Prop} (q : tt σ H fun c H1 => Q (!c) H1) : tNot tt σ H Q := q
theorem w_andV (q : ta σ H fun x H1 => ∃ c, x = .bl c ∧ if c = true then tb σ H1 Q else Q (.bl false) H1) : tAndV ta tb σ H Q := q
theorem w_orV (q : ta σ H fun x H1 => ∃ c, x = .bl c ∧ if c = true then Q (.bl true) H1 else tb σ H1 Q) : tOrV ta tb σ H Q := q
theorem w_notV (q : ta σ H fun x H1 => ∃ c, x = .bl c ∧ Q (.bl (!c)) H1) : tNotV ta σ H Q := q
theorem w_chain {r r' : R2} {tc : TE} (q : ta σ H fun x H1 => tb σ H1 fun y H2 => r x y H2 fun z H3 => ∃ k, z = .bl k ∧ if k = true then tc σ H3 fun c H4 => r' y c H4 Q else Q (.bl false) H3) : tChain r r' ta tb tc σ H Q := q
theorem w_seq (q : t { D with nx := u D } σ H) : tSeq t u D σ H := q
theorem w_next (q : D.nx σ H) : tNext D σ H := q
theorem w_ret (q : te σ H D.rt) : tRet te D σ H := q
theorem w_retN (q : D.rt .non H) : tRetN D σ H := q
theorem w_ifS (q : tt σ H fun b H1 => if b = true then t D σ H1 else u D σ H1) : tIfS tt t u D σ H := q
theorem w_asg (q : te σ H fun x H1 => g x σ H1 D.nx) : tAsg te g D σ H := q
theorem w_name {Q : L2.St → Hp → Prop} (q : Q (σ.set n (some v)) H) : gName n v σ H Q := q
theorem w_drop (q : te σ H fun _ H1 => D.nx σ H1) : tDrop te D σ H := q
theorem w_nil {Q : List V → Hp → Prop} (q : Q [] H) : tNil σ H Q := q
theorem w_cons {ta : TE} {tr : TA} {Q : List V → Hp → Prop} (q : ta σ H fun x H1 => tr σ H1 fun xs H2 => Q (x :: xs) H2) : tCons ta tr σ H Q := q
theorem w_call {sp : Sp} {t : TA} (q : t σ H fun vs H1 => sp vs H1 Q E0) : tC1 sp t σ H Q := q
theorem w_cb {r : List V → Hp → VK → Prop} {t : TA} (q : t σ H fun vs H1 => r vs H1 Q) : tCB r t σ H Q := q
theorem w_dec {c : Prop} [Decidable c] {A B : Prop} (h1 : c → A) (h2 : ¬ c → B) : if decide c = true then A else B := by
  by_cases h : c
  · rw [if_pos (decide_eq_true h)]; exact h1 h
  · rw [if_neg (by rw [decide_eq_false h]; exact Bool.false_ne_true)]; exact h2 h
theorem w_ndec {c : Prop} [Decidable c] {A B : Prop} (h1 : ¬ c → A) (h2 : c → B) : if (!decide c) = true then A else B := by
  by_cases h : c
  · rw [if_neg (by rw [decide_eq_true h]; decide)]; exact h2 h
  · rw [if_pos (by rw [decide_eq_false h]; decide)]; exact h1 h
theorem w_itT {A B : Prop} (h : A) : if true = true then A else B := iteT h
theorem w_itF {A B : Prop} (h : B) : if false = true then A else B := iteF h
theorem w_bool {b : Bool} {A B : Prop} (h1 : b = true → A) (h2 : b = false → B) : if b = true then A else B := by
  cases b
  · exact iteF (h2 rfl)
  · exact iteT (h1 rfl)
theorem w_tup {ta : TA} (q : ta σ H (kTup Q)) : tTup ta σ H Q := q
theorem w_lst {ta : TA} (q : ta σ H (kLst Q)) : tLst ta σ H Q := q
theorem w_kTup {xs : List V} (h : xs.length ≤ sizeLine) (q : ∀ p H', H p = none → Same H H' → H' p = some (.tup xs) → Q (.ref p) H') : kTup Q xs H := ⟨h, fun p np => q p _ np (fun b x e => by rw [upd_ne (ne_of_none e np)]; exact e) upd_same⟩
theorem w_kLst {xs : List V} (h : xs.length ≤ sizeLine) (q : ∀ p H', H p = none → Same H H' → H' p = some (.lst xs) → Q (.ref p) H') : kLst Q xs H := ⟨h, fun p np => q p _ np (fun b x e => by rw [upd_ne (ne_of_none e np)]; exact e) upd_same⟩
end
section
variable {K : PySem.W.Frag} {σ : L2.St} {H : Hp} {Q : VK} {p : Addr} {xs : List V} {i : Int} {v x : V} {n : Nat}
theorem w_ixL (h : H p = some (.lst xs)) (ha : atI xs i = some v) (q : Q v H) : rIxL K (.ref p) (.int i) H Q := ⟨p, xs, i, v, rfl, rfl, .inl (.inl h), ha, q⟩
theorem w_ixLs (h : SqL K H p xs) (ha : atI xs i = some v) (q : Q v H) : rIxL K (.ref p) (.int i) H Q := ⟨p, xs, i, v, rfl, rfl, h, ha, q⟩
theorem w_ixT (h : H p = some (.tup xs)) (ha : atI xs i = some v) (q : Q v H) : rIxT K (.ref p) (.int i) H Q := ⟨p, xs, i, v, rfl, rfl, .inl (.inl h), ha, q⟩
theorem w_ixTs (h : SqT K H p xs) (ha : atI xs i = some v) (q : Q v H) : rIxT K (.ref p) (.int i) H Q := ⟨p, xs, i, v, rfl, rfl, h, ha, q⟩
theorem w_sub {to ti : TE} {t : TSet} {Q : L2.St → Hp → Prop} (q : to σ H fun o H1 => ti σ H1 fun i H2 => t o i v H2 fun H3 => Q σ H3) : gSub to ti t v σ H Q := q
theorem w_lenL (h : H p = some (.lst xs)) (q : Q (.int (xs.length : Int)) H) : rLenQ K [.ref p] H Q := ⟨p, xs, rfl, .inl (.inl (.inl h)), q⟩
theorem w_lenLs (h : SqL K H p xs) (q : Q (.int (xs.length : Int)) H) : rLenQ K [.ref p] H Q := ⟨p, xs, rfl, .inl h, q⟩
theorem w_lenT (h : H p = some (.tup xs)) (q : Q (.int (xs.length : Int)) H) : rLenQ K [.ref p] H Q := ⟨p, xs, rfl, .inr (.inl (.inl h)), q⟩
theorem w_int1 (q : Q (.int i) H) : rIntQ [.int i] H Q := .inl ⟨i, rfl, q⟩
theorem w_abs (q : Q (.int (if i < 0 then -i else i)) H) : rAbsQ [.int i] H Q := ⟨i, rfl, q⟩
theorem ixN_lit {n : Nat} {j : Nat} (h : j < n) : ixN n (j : Int) = some j := by
  unfold ixN
  rw [if_pos (Int.natCast_nonneg _), if_pos (by omega)]
  simp
theorem atI_of {α : Type} {xs : List α} {i : Int} {v : α} (h0 : 0 ≤ i) (h : xs[i.toNat]? = some v) : atI xs i = some v := by
  have e : ((i.toNat : Nat) : Int) = i := Int.toNat_of_nonneg h0
  have z := atI_nat (j := i.toNat) h
  rw [e] at z
  exact z
end
section
variable {K : PySem.W.Frag} {σ : L2.St} {H : Hp} {D : Ends} {g : TG} {tb : TS} {wi : TI} {tl : TE} {R : It → Hp → Prop}
theorem w_for (q : wi σ H (kFor g tb D σ)) : tFor wi g tb D σ H := q
theorem w_iL (q : tl σ H (kIL K R)) : iList K tl σ H R := q
theorem w_iT (q : tl σ H (kIT K R)) : iTup K tl σ H R := q
theorem w_rng1 {ta : TA} (q : ta σ H (kR1 R)) : iRng1 ta σ H R := q
theorem w_rng2 {ta : TA} (q : ta σ H (kR2 R)) : iRng2 ta σ H R := q
theorem w_kR1 {j : Int} (h0 : -(2 ^ 62) ≤ j) (h1 : j < 2 ^ 62) (q : R (Itr 0 j.toNat) H) : kR1 R [.int j] H := ⟨j, rfl, h0, h1, q⟩
theorem w_forL {a : Addr} (xs : List V) (Pv : Nat → L2.St → Hp → Prop) (hS : SqL K H a xs) (h0 : Pv 0 σ H) (hl : ∀ i σ H, i ≤ xs.length → Pv i σ H → SqL K H a xs)
    (hs : ∀ i x σ H, xs[i]? = some x → Pv i σ H → g x σ H fun σ2 H2 => tb { D with nx := Pv (i + 1), ct := Pv (i + 1), bk := D.nx } σ2 H2) (hd : ∀ σ H, Pv xs.length σ H → D.nx σ H) : kIL K (kFor g tb D σ) (.ref a) H :=
  ⟨a, rfl, ⟨_, hS⟩, for_list (K := K) (a := a) (xs := xs) Pv h0 hl hs hd⟩
theorem w_forT {a : Addr} (xs : List V) (Pv : Nat → L2.St → Hp → Prop) (hS : SqT K H a xs) (h0 : Pv 0 σ H) (hl : ∀ i σ H, i ≤ xs.length → Pv i σ H → SqT K H a xs)
    (hs : ∀ i x σ H, xs[i]? = some x → Pv i σ H → g x σ H fun σ2 H2 => tb { D with nx := Pv (i + 1), ct := Pv (i + 1), bk := D.nx } σ2 H2) (hd : ∀ σ H, Pv xs.length σ H → D.nx σ H) : kIT K (kFor g tb D σ) (.ref a) H :=
  ⟨a, rfl, ⟨_, hS⟩, for_tup (K := K) (a := a) (xs := xs) Pv h0 hl hs hd⟩
theorem w_forR {j : Int} (n : Nat) (Pv : Nat → L2.St → Hp → Prop) (hn : j.toNat = n) (hj : n < 4611686018427387904 ∧ -4611686018427387904 ≤ j) (h0 : Pv 0 σ H)
    (hs : ∀ i σ H, i < n → Pv i σ H → g (.int (i : Int)) σ H fun σ2 H2 => tb { D with nx := Pv (i + 1), ct := Pv (i + 1), bk := D.nx } σ2 H2) (hd : ∀ σ H, Pv n σ H → D.nx σ H) : kR1 (kFor g tb D σ) [.int j] H := by
  refine ⟨j, rfl, by show -4611686018427387904 ≤ j; omega, by show j < 4611686018427387904; omega, ?_⟩
  subst hn
  refine for_range (lo := 0) (n := j.toNat) Pv h0 (fun i σ H hi p => ?_) hd
  rw [Int.zero_add]
  exact hs i σ H hi p
theorem w_yes {Q : Bool → Hp → Prop} (q : Q true H) : tYes σ H Q := q
theorem w_lc {tt : TT} {te : TE} {vs : List Nat} {Q : VK} (q : wi σ H (kLc g tt te vs σ Q)) : tLc wi g tt te vs σ H Q := q
theorem w_lcL {tt : TT} {te : TE} {vs : List Nat} {Q : VK} {a : Addr} (xs : List V) (Pv : Addr → Nat → Hp → Prop) (hS : SqL K H a xs) (h0 : ∀ D, H D = none → Pv D 0 (upd H D (.lst []))) (hl : ∀ D i H, i ≤ xs.length → Pv D i H → SqL K H a xs)
    (hs : ∀ D i x H, xs[i]? = some x → Pv D i H → g x (wipe σ vs) H fun σ2 H2 => wipe σ2 vs = wipe σ vs ∧ tt σ2 H2 fun b H3 =>
      if b = true then te σ2 H3 fun y H4 => ∃ acc, H4 D = some (.lst acc) ∧ acc.length < sizeLine ∧ Pv D (i + 1) (upd H4 D (.lst (acc ++ [y]))) else Pv D (i + 1) H3) (hd : ∀ D H', H D = none → Pv D xs.length H' → Q (.ref D) H') : kIL K (kLc g tt te vs σ Q) (.ref a) H :=
  ⟨a, rfl, ⟨_, hS⟩, fun D nD => lc_list (K := K) (a := a) (xs := xs) (Pv D) (h0 D nD) (hl D) (hs D) (fun H' p => hd D H' nD p)⟩
theorem w_lcT {tt : TT} {te : TE} {vs : List Nat} {Q : VK} {a : Addr} (xs : List V) (Pv : Addr → Nat → Hp → Prop) (hS : SqT K H a xs) (h0 : ∀ D, H D = none → Pv D 0 (upd H D (.lst []))) (hl : ∀ D i H, i ≤ xs.length → Pv D i H → SqT K H a xs)
    (hs : ∀ D i x H, xs[i]? = some x → Pv D i H → g x (wipe σ vs) H fun σ2 H2 => wipe σ2 vs = wipe σ vs ∧ tt σ2 H2 fun b H3 =>
      if b = true then te σ2 H3 fun y H4 => ∃ acc, H4 D = some (.lst acc) ∧ acc.length < sizeLine ∧ Pv D (i + 1) (upd H4 D (.lst (acc ++ [y]))) else Pv D (i + 1) H3) (hd : ∀ D H', H D = none → Pv D xs.length H' → Q (.ref D) H') : kIT K (kLc g tt te vs σ Q) (.ref a) H :=
  ⟨a, rfl, ⟨_, hS⟩, fun D nD => lc_tup (K := K) (a := a) (xs := xs) (Pv D) (h0 D nD) (hl D) (hs D) (fun H' p => hd D H' nD p)⟩
theorem w_lcR {tt : TT} {te : TE} {vs : List Nat} {Q : VK} {j : Int} (n : Nat) (Pv : Addr → Nat → Hp → Prop) (hn : j.toNat = n) (hj : n < 4611686018427387904 ∧ -4611686018427387904 ≤ j) (h0 : ∀ D, H D = none → Pv D 0 (upd H D (.lst [])))
    (hs : ∀ D i H, i < n → Pv D i H → g (.int (i : Int)) (wipe σ vs) H fun σ2 H2 => wipe σ2 vs = wipe σ vs ∧ tt σ2 H2 fun b H3 =>
      if b = true then te σ2 H3 fun y H4 => ∃ acc, H4 D = some (.lst acc) ∧ acc.length < sizeLine ∧ Pv D (i + 1) (upd H4 D (.lst (acc ++ [y]))) else Pv D (i + 1) H3) (hd : ∀ D H', H D = none → Pv D n H' → Q (.ref D) H') : kR1 (kLc g tt te vs σ Q) [.int j] H := by
  refine ⟨j, rfl, by show -4611686018427387904 ≤ j; omega, by show j < 4611686018427387904; omega, ?_⟩
  subst hn
  refine fun D nD => lc_range (lo := 0) (n := j.toNat) (Pv D) (h0 D nD) (fun i H hi p => ?_) (fun H' p => hd D H' nD p)
  rw [Int.zero_add]
  exact hs D i H hi p
end
theorem take_more {α : Type} : ∀ {l : List α} {i : Nat} {x : α}, l[i]? = some x → l.take (i + 1) = l.take i ++ [x]
  | [], i, x, h => by simp at h
  | a :: l, 0, x, h => by
    have e : a = x := Option.some.inj h
    subst e
    rfl
  | a :: l, i + 1, x, h => by
    have ih := take_more (l := l) (i := i) (x := x) h
    show a :: l.take (i + 1) = a :: l.take i ++ [x]
    rw [ih]
    rfl
theorem map_get {ns : List Int} {i : Nat} {x : V} (h : (ns.map V.int)[i]? = some x) : ∃ n, ns[i]? = some n ∧ x = .int n := by
  rw [List.getElem?_map] at h
  cases e : ns[i]? with
  | none => rw [e] at h; cases h
  | some z => rw [e] at h; exact ⟨z, rfl, (Option.some.inj h).symm⟩
theorem w_p32 {H : Hp} {Q : VK} (q : Q (.int 4294967296) H) : rI CPow (fun i j => .int (i ^ j.toNat)) (.int 2) (.int 32) H Q := ⟨2, 32, rfl, rfl, ⟨by decide, by decide, by decide⟩, q⟩
theorem w_p31 {H : Hp} {Q : VK} (q : Q (.int 2147483648) H) : rI CPow (fun i j => .int (i ^ j.toNat)) (.int 2) (.int 31) H Q := ⟨2, 31, rfl, rfl, ⟨by decide, by decide, by decide⟩, q⟩
theorem w_p26 {H : Hp} {Q : VK} (q : Q (.int 67108864) H) : rI CPow (fun i j => .int (i ^ j.toNat)) (.int 2) (.int 26) H Q := ⟨2, 26, rfl, rfl, ⟨by decide, by decide, by decide⟩, q⟩
theorem w_p22 {H : Hp} {Q : VK} (q : Q (.int 4194304) H) : rI CPow (fun i j => .int (i ^ j.toNat)) (.int 2) (.int 22) H Q := ⟨2, 22, rfl, rfl, ⟨by decide, by decide, by decide⟩, q⟩
theorem w_p20 {H : Hp} {Q : VK} (q : Q (.int 1048576) H) : rI CPow (fun i j => .int (i ^ j.toNat)) (.int 2) (.int 20) H Q := ⟨2, 20, rfl, rfl, ⟨by decide, by decide, by decide⟩, q⟩
theorem w_p18 {H : Hp} {Q : VK} (q : Q (.int 262144) H) : rI CPow (fun i j => .int (i ^ j.toNat)) (.int 2) (.int 18) H Q := ⟨2, 18, rfl, rfl, ⟨by decide, by decide, by decide⟩, q⟩
theorem w_p17 {H : Hp} {Q : VK} (q : Q (.int 131072) H) : rI CPow (fun i j => .int (i ^ j.toNat)) (.int 2) (.int 17) H Q := ⟨2, 17, rfl, rfl, ⟨by decide, by decide, by decide⟩, q⟩
theorem w_p16 {H : Hp} {Q : VK} (q : Q (.int 65536) H) : rI CPow (fun i j => .int (i ^ j.toNat)) (.int 2) (.int 16) H Q := ⟨2, 16, rfl, rfl, ⟨by decide, by decide, by decide⟩, q⟩
theorem w_p14 {H : Hp} {Q : VK} (q : Q (.int 16384) H) : rI CPow (fun i j => .int (i ^ j.toNat)) (.int 2) (.int 14) H Q := ⟨2, 14, rfl, rfl, ⟨by decide, by decide, by decide⟩, q⟩
theorem w_p13 {H : Hp} {Q : VK} (q : Q (.int 8192) H) : rI CPow (fun i j => .int (i ^ j.toNat)) (.int 2) (.int 13) H Q := ⟨2, 13, rfl, rfl, ⟨by decide, by decide, by decide⟩, q⟩
/-- all but d stays -/
def But (d : Addr) (H H' : Hp) : Prop := ∀ b o, b ≠ d → H b = some o → H' b = some o
theorem But.refl (d : Addr) (H : Hp) : But d H H := fun _ _ _ h => h
theorem But.trans {d : Addr} {H H1 H2 : Hp} (a : But d H H1) (b : But d H1 H2) : But d H H2 := fun c o n h => b c o n (a c o n h)
theorem But.of {d : Addr} {H H' : Hp} (s : Same H H') : But d H H' := fun b o _ h => s b o h
theorem But.set {d : Addr} {H : Hp} {o : HO} : But d H (upd H d o) := fun b u n h => by rw [upd_ne n]; exact h
theorem But.tup {d : Addr} {H H' : Hp} {xs ys : List V} {a : Addr} (b : But d H H') (hd : H d = some (.lst ys)) (h : H a = some (.tup xs)) : H' a = some (.tup xs) := b a _ (ne_of h hd (by intro z; cases z)) h
theorem Same.new {H : Hp} {p : Addr} {o : HO} (h : H p = none) : Same H (upd H p o) := fun b x e => by rw [upd_ne (ne_of_none e h)]; exact e
theorem But.new {d : Addr} {H : Hp} {p : Addr} {o : HO} (h : H p = none) : But d H (upd H p o) := .of (Same.new h)
theorem w_setL {p : Addr} {xs : List V} {i : Int} {v : V} {H : Hp} {j : Nat} {Q : Hp → Prop} (h : H p = some (.lst xs)) (hj : ixN xs.length i = some j) (q : ∀ H', H' p = some (.lst (xs.set j v)) → But p H H' → Q H') : rSetL (.ref p) (.int i) v H Q := ⟨p, xs, i, j, rfl, rfl, h, hj, q _ upd_same But.set⟩
section
variable {X : Cx} {k i : Nat} {x : Str} {p pos : Pos} {e : Expr} {es : List Expr} {t : TA}
/-- a local that holds a def, called -/
def tCallZ (P : Program) (w : World) (K : PySem.W.Frag) (mg : Str → Option Value) (base : Heap) (k i : Nat) (t : TA) : TE := fun σ H Q => ∃ f sp, σ[i]? = some (some (.ref f)) ∧ Held P w K mg base k f sp ∧ t σ H fun vs H1 => sp vs H1 Q E0
theorem pe_callZ (hr : Room k X.A) (hN : X.N[i]? = some x) (hv : Vis X.env.scope x) (ha : PA X (e :: es) t)
    (hdb : (x == ("__debug__" : Str)) = false := by decide) (hcd : (x == ("__classdict__" : Str)) = false := by decide)
    (he : starEach (e :: es) X.env = (false, eval e X.env) :: starEach es X.env := by rfl) (hpl : (backTo pos (starEach es X.env)).any (·.1) = false := by rfl) : PE X (.Call (.Name x p) (e :: es) [] pos) (tCallZ X.prog X.w X.K X.mg X.base k i t) := by
  refine ⟨fun pins s σ H Q I h => ?_⟩
  obtain ⟨f, sp, hs, hd, ht⟩ := h
  obtain ⟨fd, ps, F, hk, hb⟩ := hd.ex
  refine (pe_callL (i := i) (f := f) (sp := sp) (dvs := []) (E := E0) F hr hN hv hk hb .nil pass0 ha hdb hcd he hpl).run pins s σ H Q I ⟨hs, ?_⟩
  show t σ H (fun vs H1 => sp (vs ++ []) H1 Q E0)
  simp only [List.append_nil]
  exact ht
end
theorem w_callZ {P : Program} {w : World} {K : PySem.W.Frag} {mg : Str → Option Value} {base : Heap} {k i : Nat} {t : TA} {σ : L2.St} {H : Hp} {Q : VK} {f : Addr} {sp : Sp} (hs : σ[i]? = some (some (.ref f))) (h : Held P w K mg base k f sp) (q : t σ H fun vs H1 => sp vs H1 Q E0) : tCallZ P w K mg base k i t σ H Q := ⟨f, sp, hs, h, q⟩
theorem w_ixD {K : PySem.W.Frag} {w : World} {p : Addr} {z : Str} {v : V} {H : Hp} {Q : VK} (h : KDct K w p z v) (q : Q v H) : rIxD K w (.ref p) (.str z) H Q := ⟨p, z, v, rfl, rfl, h, q⟩
theorem w_eqS {a b : Str} {H : Hp} {Q : VK} (q : Q (.bl (decide (a = b))) H) : rEq (.str a) (.str b) H Q := ⟨rfl, by
  have e : (decide (V.str a = V.str b)) = decide (a = b) := by
    by_cases h : a = b
    · subst h; simp
    · rw [decide_eq_false h, decide_eq_false (fun z => h (V.str.inj z))]
  rw [e]; exact q⟩
theorem w_decT {c : Prop} [Decidable c] {A B : Prop} (h : c) (q : A) : if decide c = true then A else B := by
  rw [if_pos (decide_eq_true h)]; exact q
theorem w_decF {c : Prop} [Decidable c] {A B : Prop} (h : ¬ c) (q : B) : if decide c = true then A else B := by
  rw [if_neg (by rw [decide_eq_false h]; exact Bool.false_ne_true)]; exact q
theorem w_inL {K : PySem.W.Frag} {x : V} {p : Addr} {xs : List V} {H : Hp} {Q : VK} {b : Bool} (h : H p = some (.lst xs)) (hx : flatV x = true) (ha : xs.all flatV = true) (hb : inV x xs = b) (q : Q (.bl b) H) : rIn K false x (.ref p) H Q := ⟨p, xs, rfl, .inl (.inl (.inl h)), hx, ha, by rw [hb]; exact q⟩
def rAddSQ : R2 := fun x y H Q => ∃ i j, x = .str i ∧ y = .str j ∧ i.length + j.length ≤ sizeLine ∧ Q (.str (i ++ j)) H
theorem op_addSQ {X : Cx} : OpR X (binaryOp .Add) rAddSQ := op_add_str
theorem w_addS {a b : Str} {H : Hp} {Q : VK} (h : a.length + b.length ≤ sizeLine) (q : Q (.str (a ++ b)) H) : rAddSQ (.str a) (.str b) H Q := ⟨a, b, rfl, rfl, h, q⟩
section
variable {X : Cx} {c a b : Expr} {tc ta tb : TT} {pos : Pos}
/-- a if c else b, as a test -/
def tIfB (tc ta tb : TT) : TT := fun σ H Q => tc σ H fun k H1 => if k = true then ta σ H1 Q else tb σ H1 Q
theorem pt_ifExp (hc : PT X c tc) (ha : PT X a ta) (hb : PT X b tb) : PT X (.IfExp c a b pos) (tIfB tc ta tb) := by
  refine ⟨fun pins s σ H Q I h => ?_⟩
  refine isTrue_IfExp (thn (hc.run pins s σ H _ I h) fun k s1 ⟨H1, I1, q⟩ => ?_)
  cases k with
  | true => exact ha.run pins s1 σ H1 Q I1 (by simpa using q)
  | false => exact hb.run pins s1 σ H1 Q I1 (by simpa using q)
theorem w_ifB {σ : L2.St} {H : Hp} {Q : Bool → Hp → Prop} (q : tc σ H fun k H1 => if k = true then ta σ H1 Q else tb σ H1 Q) : tIfB tc ta tb σ H Q := q
end
theorem w_gTup {K : PySem.W.Frag} {n : Nat} {t : TGs} {a : Addr} {xs : List V} {σ : L2.St} {H : Hp} {Q : L2.St → Hp → Prop} (h : H a = some (.tup xs)) (hn : xs.length = n) (q : t xs σ H Q) : gTup K n t (.ref a) σ H Q := ⟨a, xs, rfl, .inl (.inl h), hn, q⟩
theorem w_gNil {σ : L2.St} {H : Hp} {Q : L2.St → Hp → Prop} (q : Q σ H) : gNil [] σ H Q := ⟨rfl, q⟩
theorem w_gCons {t : TG} {u : TGs} {v : V} {r : List V} {σ : L2.St} {H : Hp} {Q : L2.St → Hp → Prop} (q : t v σ H fun σ' H' => u r σ' H' Q) : gCons t u (v :: r) σ H Q := ⟨v, r, rfl, q⟩
theorem w_isB {a b : Bool} {H : Hp} {Q : VK} (q : Q (.bl (decide (a = b))) H) : rIsB (.bl a) (.bl b) H Q := ⟨a, b, rfl, rfl, q⟩
theorem w_notB {a b : Bool} {H : Hp} {Q : VK} (q : Q (.bl (!decide (a = b))) H) : rNotB (.bl a) (.bl b) H Q := ⟨a, b, rfl, rfl, q⟩
theorem w_isiInt {K : PySem.W.Frag} {i : Int} {H : Hp} {Q : VK} (q : Q (.bl true) H) : rIsi K [.int i, .ty "int"] H Q := ⟨.int i, .ty "int", .type "int", .type "int", true, rfl, .ty _, .base (.int _), kit_ty (by decide +kernel), q⟩
theorem w_isiIntB {K : PySem.W.Frag} {i : Int} {H : Hp} {Q : VK} (q : Q (.bl false) H) : rIsi K [.int i, .ty "bool"] H Q := ⟨.int i, .ty "bool", .type "int", .type "bool", false, rfl, .ty _, .base (.int _), kit_ty (by decide +kernel), q⟩
theorem w_ndecF {c : Prop} [Decidable c] {A B : Prop} (h : c) (q : B) : if (!decide c) = true then A else B := by
  rw [if_neg (by rw [decide_eq_true h]; decide)]; exact q
theorem w_ndecT {c : Prop} [Decidable c] {A B : Prop} (h : ¬ c) (q : A) : if (!decide c) = true then A else B := by
  rw [if_pos (by rw [decide_eq_false h]; rfl)]; exact q
theorem w_nT {A B : Prop} (q : B) : if (!true) = true then A else B := by rw [if_neg (by decide)]; exact q
theorem w_nF {A B : Prop} (q : A) : if (!false) = true then A else B := by rw [if_pos (by decide)]; exact q
theorem map_get' {α : Type} {f : α → V} {ns : List α} {i : Nat} {x : V} (h : (ns.map f)[i]? = some x) : ∃ n, n ∈ ns ∧ ns[i]? = some n ∧ x = f n := by
  rw [List.getElem?_map] at h
  cases e : ns[i]? with
  | none => rw [e] at h; cases h
  | some z => rw [e] at h; exact ⟨z, List.mem_of_getElem? e, rfl, (Option.some.inj h).symm⟩
/-- pure functions of ints -/
def spI1 (C : Int → Prop) (f : Int → V) : Sp := fun vs H Q _ => ∃ x, vs = [.int x] ∧ C x ∧ Q (f x) H
def spI2 (C : Int → Int → Prop) (f : Int → Int → V) : Sp := fun vs H Q _ => ∃ x y, vs = [.int x, .int y] ∧ C x y ∧ Q (f x y) H
theorem w_spI1 {C : Int → Prop} {f : Int → V} {x : Int} {H : Hp} {Q : VK} {E : XK} (c : C x) (q : Q (f x) H) : spI1 C f [.int x] H Q E := ⟨x, rfl, c, q⟩
theorem w_spI2 {C : Int → Int → Prop} {f : Int → Int → V} {x y : Int} {H : Hp} {Q : VK} {E : XK} (c : C x y) (q : Q (f x y) H) : spI2 C f [.int x, .int y] H Q E := ⟨x, y, rfl, c, q⟩
theorem len_spI1 {C : Int → Prop} {f : Int → V} {s : Str} (vs : List V) (H : Hp) (Q : VK) (E : XK) (h : spI1 C f vs H Q E) : vs.length = [s].length := by
  obtain ⟨x, rfl, _⟩ := h; rfl
theorem len_spI2 {C : Int → Int → Prop} {f : Int → Int → V} {s r : Str} (vs : List V) (H : Hp) (Q : VK) (E : XK) (h : spI2 C f vs H Q E) : vs.length = [s, r].length := by
  obtain ⟨x, y, rfl, _⟩ := h; rfl
/-- a Cd from a def that stands -/
theorem mkCd {P : Program} {w : World} {K : PySem.W.Frag} {mg : Str → Option Value} {base : Heap} {x qual : Str} {st : Stmt} {f : Addr} {fd : FuncData} {k : Nat} {ps : List Str} {sp : Sp} (F : Fun K x qual st f fd) (b : Binds K fd ps []) (m : mg x = some (.ref f)) (ok : FnOk P w K mg base CX0 k f fd ps sp) : Cd P w K mg base k x sp :=
  ⟨f, fd, ps, ok, m, F.kp, b⟩
/-- what stands: the def, how its arguments bind, its name -/
structure St1 (K : PySem.W.Frag) (mg : Str → Option Value) (x : Str) (st : Stmt) (ps : List Str) : Prop where
  ex : ∃ f fd, Fun K x x st f fd ∧ Binds K fd ps [] ∧ mg x = some (.ref f)
theorem St1.cd {P : Program} {w : World} {K : PySem.W.Frag} {mg : Str → Option Value} {base : Heap} {x : Str} {st : Stmt} {k : Nat} {N ps : List Str} {sp : Sp} (Z : St1 K mg x st ps) (S : FnScope N ps (defScope st)) (len : ∀ vs H Q E, sp vs H Q E → vs.length = ps.length)
    (hbody : ∀ (f : Addr) (cdv : Value) (A : Around) (outer : List Env) (s : Shared) (H : Hp) (vs : List V) (Q : VK) (E : XK), Room k (A.deeper (envOfC x (defScope st) s.heap.objs.size f cdv)) → sp vs H Q E →
      ∃ t, PSs (cxOf CX0 P w K mg base N x (defScope st) f cdv A outer s H E).nox (defBody st) t ∧ t { nx := fun _ H' => Q .non H', rt := Q } (start N vs) H) : Cd P w K mg base (k + 1) x sp := by
  obtain ⟨f, fd, F, b, m⟩ := Z.ex
  exact mkCd F b m (F.ok S len (hbody f))
theorem mkSt1 {K : PySem.W.Frag} {mg : Str → Option Value} {x : Str} {st : Stmt} {ps : List Str} {h : Heap} {f : Addr} {oc : Value} {od an : Option Addr} {osl : Array (Option Value)} {kV doc pm cdv ct : Value} (X : K.In h) (G : h.Ns mainGlobals mg)
    (a : PySem.W.nsIn K mainGlobals x = some (some (.ref f))) (l : K.lookup f = some ⟨oc, od, .func (PySem.W.fnOf x x (defArgs st) (defBody st) (defScope st) .none kV doc pm an cdv ct), osl⟩) (c : PySem.W.codeIn K cdv x = true) (k : PySem.W.keepIn K (.ref f) = true)
    (hb : ∀ (kV doc pm : Value) (an : Option Addr) (cdv ct : Value) (us : List Value), us.length = ps.length → bindArgs (PySem.W.fnOf x x (defArgs st) (defBody st) (defScope st) .none kV doc pm an cdv ct) ⟨us, []⟩ = pure (ps.zip us)) : St1 K mg x st ps :=
  ⟨f, _, fun_mk (st := st) l c k, (fun_mk (st := st) l c k).binds hb, PySem.W.mg_of X G a⟩
/-- a def among others that a local may hold -/
theorem Cd.held {P : Program} {w : World} {K : PySem.W.Frag} {mg : Str → Option Value} {base : Heap} {k : Nat} {x : Str} {sp : Sp} {f : Addr} (c : Cd P w K mg base k x sp) (m : mg x = some (.ref f)) : Held P w K mg base k f sp := by
  obtain ⟨f', fd, ps, F, m', kp, b⟩ := c.ex
  cases m'.symm.trans m
  exact ⟨⟨fd, ps, F, kp, b⟩⟩
end Co

set_option Elab.async false
set_option linter.all false
set_option maxRecDepth 100000
set_option maxHeartbeats 4000000
namespace Co
open PySem PySem.Spec PyProof.Rows L2 PpSet
/-! ### a comprehension, clause by clause: one rule for each clause's loop, whatever its turn does -/
/-- a clause's turn, what is done with an item told apart -/
def turnOf (tg src : Expr) (ifs : List Expr) (it : Value) (env : Env) (body : Sem Unit) (c : Code) : Sem PySem.Fin := do
  standAt src.pos
  match ← pyNext it with
  | none => pure (.done .next)
  | some v =>
    letOwnedTupleGo tg it v
    assign tg env v
    let mut ok := true
    for c in ifs do
      if ok then ok ← isTrue c env (eval c env)
    if ok then body
    again c
/-- the body of the innermost clause of a set's comprehension -/
def addTo (elt : Expr) (acc : Value) (env : Env) : Sem Unit := do
  let v ← eval elt env
  standAt elt.pos
  let _ ← call (.builtin "set.add") [acc, v]
theorem turn_s1 (elt t i : Expr) (ifs : List Expr) (sc : Scope) (pos : Pos) (it acc : Value) (env : Env) :
    compTurn (.SetComp elt [⟨t, i, ifs, 0⟩] sc pos) 0 it acc env = turnOf t i ifs it env (addTo elt acc env) (.compLoop (.SetComp elt [⟨t, i, ifs, 0⟩] sc pos) 0 it acc env) := by rfl
theorem turn_s2b (elt t i t1 i1 : Expr) (ifs ifs1 : List Expr) (sc : Scope) (pos : Pos) (it acc : Value) (env : Env) :
    compTurn (.SetComp elt [⟨t, i, ifs, 0⟩, ⟨t1, i1, ifs1, 0⟩] sc pos) 1 it acc env = turnOf t1 i1 ifs1 it env (addTo elt acc env) (.compLoop (.SetComp elt [⟨t, i, ifs, 0⟩, ⟨t1, i1, ifs1, 0⟩] sc pos) 1 it acc env) := by rfl
/-- what an outer clause does with an item: the next clause begins -/
def beginIn (C : Expr) (i1 : Expr) (k : Nat) (acc : Value) (env : Env) : Sem Unit := do
  let x ← eval i1 env
  standAt i1.pos
  let x ← foldedSetIterable i1 env x
  let _ ← runOwn (.compStart C k (← holding [x] (pyIter x)) acc env) env
theorem turn_s2a (elt t i t1 i1 : Expr) (ifs ifs1 : List Expr) (sc : Scope) (pos : Pos) (it acc : Value) (env : Env) :
    compTurn (.SetComp elt [⟨t, i, ifs, 0⟩, ⟨t1, i1, ifs1, 0⟩] sc pos) 0 it acc env = turnOf t i ifs it env (beginIn (.SetComp elt [⟨t, i, ifs, 0⟩, ⟨t1, i1, ifs1, 0⟩] sc pos) i1 1 acc env) (.compLoop (.SetComp elt [⟨t, i, ifs, 0⟩, ⟨t1, i1, ifs1, 0⟩] sc pos) 0 it acc env) := by
  unfold turnOf beginIn
  simp only [bind_assoc, pure_bind]
  rfl

/-- no exception -/
abbrev Never : Value → Shared → Prop := fun _ _ => False
section
variable {prog : Program} {w : World} {A : Around} {s : Shared} {elt : Expr} {gens : List Comprehension} {sc : Scope} {pos : Pos} {k : Nat} {it acc : Value} {env : Env} {tg src : Expr} {ifs : List Expr} {body : Sem Unit}
/-- the tests of a clause -/
def testsOf (ifs : List Expr) (env : Env) : Sem Bool := forIn ifs true fun c r => if r = true then do let ok ← isTrue c env (eval c env); pure (ForInStep.yield ok) else pure (ForInStep.yield r)
/-- one turn: from I n either the source is at its end, or an item goes through and a lesser n is reached -/
theorem clause_loop {R : Shared → Prop} (hC : compTurn (.SetComp elt gens sc pos) k it acc env = turnOf tg src ifs it env body (.compLoop (.SetComp elt gens sc pos) k it acc env)) (I : Nat → Shared → Prop)
    (turn : ∀ n s, I n s → wpAny (model prog w) A (pyNext it) (fun r s1 => (r = none ∧ R s1) ∨ ∃ v, r = some v ∧ wpAny (model prog w) A (letOwnedTupleGo tg it v) (fun _ s2 => wpAny (model prog w) A (assign tg env v) (fun _ s3 => wpAny (model prog w) A (testsOf ifs env) (fun ok s4 =>
      if ok = true then wpAny (model prog w) A body (fun _ s5 => ∃ m, m < n ∧ I m s5) Never s4 else ∃ m, m < n ∧ I m s4) Never s3) Never s2) Never s1) Never s) (n : Nat) (h : I n s) :
    codeAny (model prog w) A (.compLoop (.SetComp elt gens sc pos) k it acc env) (fun r s' => r = .ok .next ∧ R s') s := by
  refine codeAny_loop rfl I (fun n s hI => ?_) n h
  show wpAny _ A ((compTurn (.SetComp elt gens sc pos) k it acc env).onRaise fun x => do noteFrame x env; theTreesLotGoes x) _ _ s
  rw [hC]
  refine wpAny_noted (wpAny_bind (wpAny_standAt (wpAny_bind (thnF (turn n s hI) fun r s1 h1 => ?_))))
  rcases h1 with ⟨rfl, q⟩ | ⟨v, rfl, q⟩
  · exact wpAny_pure ⟨rfl, q⟩
  · refine wpAny_bind (thnF q fun _ s2 q => wpAny_bind (thnF q fun _ s3 q => wpAny_bind (thnF q fun ok s4 q => ?_)))
    cases ok with
    | false => exact wpAny_pure ⟨rfl, q⟩
    | true => exact wpAny_bind (thnF q fun _ s5 q => wpAny_pure ⟨rfl, q⟩)
end
/-! ### the same over the abstract heap -/
/-- what a turn's body does: it leaves the slots beyond vs as they were, and a heap of K -/
abbrev TBd := L2.St → Hp → (Hp → Prop) → Prop
def Kept (vs : List Nat) (σ σ' : L2.St) : Prop := σ'.length = σ.length ∧ ∀ (j : Nat) (v : V), j ∉ vs → σ[j]? = some (some v) → σ'[j]? = some (some v)
theorem Kept.refl {vs : List Nat} {σ : L2.St} : Kept vs σ σ := ⟨rfl, fun _ _ _ e => e⟩
structure PB (X : Cx) (vs : List Nat) (body : Sem Unit) (tb : TBd) : Prop where
  run : ∀ (pins : List (Addr × Obj)) (s : Shared) (σ : L2.St) (H : Hp) (Z : Hp → Prop), Inv X pins σ H s → tb σ H Z → wpAny (model X.prog X.w) X.A body (fun _ s' => ∃ σ' H', Inv X pins σ' H' s' ∧ Kept vs σ σ' ∧ Z H') Never s
/-- a clause's loop over its source -/
def tLp (g : TG) (tt : TT) (tb : TBd) (vs : List Nat) (σ : L2.St) (Z : Hp → Prop) : It → Hp → Prop := fun J H0 => ∃ W : Nat → Nat → Hp → Prop, (∃ m, W 0 m H0) ∧ ∀ i m H, W i m H →
  (J.stop i H ∧ Z H) ∨ (J.go i H ∧ ∃ Nx : Hp → Prop, (∀ H', Nx H' → ∃ m', m' < m ∧ W (i + 1) m' H') ∧ ∀ x H', J.yld i H x H' → g x (wipe σ vs) H' fun σ2 H2 => wipe σ2 vs = wipe σ vs ∧ tt σ2 H2 fun b H3 => if b = true then tb σ2 H3 Nx else Nx H3)
theorem kept_wipe {vs : List Nat} {σ σ2 : L2.St} (h : wipe σ2 vs = wipe σ vs) : (wipe σ vs).length = σ2.length ∧ ∀ (j : Nat) (v : V), (wipe σ vs)[j]? = some (some v) → j ∉ vs ∧ σ2[j]? = some (some v) := by
  rw [← h]
  exact ⟨wipe_length _ _, fun j v e => ⟨(wipe_some e).2, (wipe_some e).1⟩⟩
section
variable {X : Cx} {s : Shared} {elt : Expr} {gens : List Comprehension} {sc : Scope} {pos : Pos} {k : Nat} {acc : Value} {tg src : Expr} {ifs : List Expr} {body : Sem Unit} {g : TG} {tt : TT} {tb : TBd} {wb vs : List Nat}
/-- THE RULE for a clause: its loop, from the state in which its source has just been asked for an iterator -/
theorem clause_run {pins : List (Addr × Obj)} {σ : L2.St} {H : Hp} {it : Addr} {fp : List Addr} {tn : Nat → Heap → Prop} {J : It} {Z : Hp → Prop} (hc : X.calm = true) (never : ∀ e s, X.xe e s → False) (hC : compTurn (.SetComp elt gens sc pos) k (.ref it) acc X.env = turnOf tg src ifs (.ref it) X.env body (.compLoop (.SetComp elt gens sc pos) k (.ref it) acc X.env))
    (hg : PG X tg g) (ht : PTs X ifs tt) (hb : PB X wb body tb) (hw : ∀ j ∈ wb, j ∈ vs) (T : Turn X.prog X.w X.K tg J fp it tn) (I : Inv X pins σ H s) (st : tn 0 s.heap) (hf : ∀ b ∈ fp, FpOk X pins H b) (q : tLp g tt tb vs σ Z J H) :
    codeAny (model X.prog X.w) X.A (.compLoop (.SetComp elt gens sc pos) k (.ref it) acc X.env) (fun r s' => r = .ok .next ∧ ∃ H', Inv X pins (wipe σ vs) H' s' ∧ (∀ b ∈ fp, H' b = none) ∧ Z H') s := by
  obtain ⟨W, ⟨m0, w0⟩, turn⟩ := q
  have fpk : ∀ {H' : Hp}, (∀ b ∈ fp, H' b = none) → ∀ b ∈ fp, FpOk X pins H' b := fun z b hb => ⟨z b hb, (hf b hb).2⟩
  have nv : ∀ {α : Type} {t : Sem α} {Q : α → Shared → Prop} {s : Shared}, wpAny (model X.prog X.w) X.A t Q X.xe s → wpAny (model X.prog X.w) X.A t Q Never s := fun h => wpAny_mono h (fun _ _ q => q) never
  refine clause_loop (R := fun s' => ∃ H', Inv X pins (wipe σ vs) H' s' ∧ (∀ b ∈ fp, H' b = none) ∧ Z H') hC (fun n s' => ∃ i H', Inv X pins (wipe σ vs) H' s' ∧ tn i s'.heap ∧ (∀ b ∈ fp, H' b = none) ∧ W i n H') ?_ m0 ⟨0, H, I.weak (wipe_length _ _) fun j v e => (wipe_some e).1, st, fun b hb => (hf b hb).1, w0⟩
  rintro n s1 ⟨i, H1, I1, st1, n1, w1⟩
  rcases turn i n H1 w1 with ⟨stop, z⟩ | ⟨go, Nx, hNx, step⟩
  · exact thnF (T.done X rfl rfl rfl hc i pins s1 _ H1 Never I1 (fpk n1) st1 stop) fun r s2 ⟨e, I2⟩ => .inl ⟨e, H1, I2, n1, z⟩
  · refine thnF (T.item X rfl rfl rfl hc i pins s1 _ H1 Never I1 (fpk n1) st1 go) fun r s2 ⟨u, e, h2⟩ => .inr ⟨u, e, thnF h2 fun _ s3 ⟨x, H3, I3, r3, y3, st3, n3⟩ => ?_⟩
    have I3p := I3.pinned (fpk n3) (T.obj _ _ st3)
    have fin : ∀ {σ' : L2.St} {s' : Shared} {H' : Hp}, Inv X (pins ++ pinsAt fp s3.heap) σ' H' s' → σ'.length = (wipe σ vs).length → (∀ (j : Nat) (v : V), (wipe σ vs)[j]? = some (some v) → σ'[j]? = some (some v)) → Nx H' →
        ∃ m, m < n ∧ ∃ i H', Inv X pins (wipe σ vs) H' s' ∧ tn i s'.heap ∧ (∀ b ∈ fp, H' b = none) ∧ W i m H' := by
      intro σ' s' H' I' hl hk nx
      obtain ⟨m, hm, w2⟩ := hNx H' nx
      have pinned : ∀ b ∈ fp, ∃ o, s3.heap.get? b = some o ∧ s'.heap.get? b = some o ∧ H' b = none := fun b hb => by
        obtain ⟨o, e, _⟩ := T.obj _ _ st3 b hb
        have p := I'.pin (b, o) (List.mem_append_right _ (List.mem_append_right _ (mem_pinsAt hb e)))
        exact ⟨o, e, p.1, p.2.1⟩
      refine ⟨m, hm, i + 1, H', I'.unpinned.weak hl.symm hk, T.keep _ _ _ st3 fun b hb o e => ?_, fun b hb => ?_, w2⟩
      · obtain ⟨o', e1, e2, _⟩ := pinned b hb
        rw [e] at e1; cases e1; exact e2
      · obtain ⟨_, _, _, e⟩ := pinned b hb; exact e
    refine nv (thn (hg.run _ s3 _ H3 x u _ I3p r3 (step x H3 y3)) fun _ s4 ⟨σ4, H4, I4, hw4, q4⟩ => ?_)
    obtain ⟨l4, k4⟩ := kept_wipe hw4
    refine nv (thn (ht.run _ s4 σ4 H4 _ I4 q4) fun b s5 ⟨H5, I5, q5⟩ => ?_)
    cases b with
    | false => exact iteF (fin I5 l4.symm (fun j v e => (k4 j v e).2) (by simpa using q5))
    | true =>
      refine iteT (thnF (hb.run _ s5 σ4 H5 Nx I5 (by simpa using q5)) fun _ s6 ⟨σ6, H6, I6, kp, z⟩ => ?_)
      exact fin I6 (kp.1.trans l4.symm) (fun j v e => kp.2 j v (fun m => (k4 j v e).1 (hw j m)) (k4 j v e).2) z
end
section
variable {prog : Program} {w : World} {A : Around} {R : Result → Shared → Prop} {s : Shared} {elt : Expr} {gens : List Comprehension} {g : Comprehension} {sc : Scope} {pos : Pos} {k : Nat} {it acc : Value} {env : Env}
/-- a clause's beginning: its source's iterator is asked for itself, or not -/
theorem clause_start (hg : gens[k]? = some g) (ha : g.is_async = 0) (h0 : codeAny (model prog w) A (.compLoop (.SetComp elt gens sc pos) k it acc env) R s)
    (h1 : wpAny (model prog w) A (pyIter it) (fun v s' => codeAny (model prog w) A (.compLoop (.SetComp elt gens sc pos) k v acc env) R s') Never s) : codeAny (model prog w) A (.compStart (.SetComp elt gens sc pos) k it acc env) R s := by
  refine codeAny_of_tree ?_
  show wpAny _ _ ((compStart (.SetComp elt gens sc pos) k it acc env).onRaise fun x => do noteFrame x env; standAt theWindowsPlace) _ _ s
  refine wpAny_notedAt ?_
  unfold compStart
  have e1 : (clausesOf (.SetComp elt gens sc pos))[k]? = some g := hg
  rw [e1]
  have e2 : ((some g).elim false fun x : Comprehension => x.is_async != 0) = false := by show (g.is_async != 0) = false; rw [ha]; rfl
  rw [e2, if_neg (by decide)]
  refine wpAny_bind (wpAny_askSetting ?_)
  split
  · exact wpAny_pure ⟨rfl, h0⟩
  · exact wpAny_bind (wpAny_rule (wpAny_bind (wpAny_standAt (wpAny_bind (thnF h1 fun v s' q => wpAny_pure ⟨rfl, q⟩)))))
end
/-! ### the bodies -/
section
variable {X : Cx}
/-- an int added to the set at D -/
def tAdd (w : World) (D : Addr) (te : TE) : TBd := fun σ H Z => te σ H fun y H4 => ∃ (c : Int) (S : Int → Bool) (n : Nat), y = .int c ∧ H4 D = some (SetO w D S n) ∧ n + 1 < scanBound ∧ Z (upd H4 D (SetO w D (fun j => S j || decide (j = c)) (if S c = true then n else n + 1)))
theorem add_int {pins : List (Addr × Obj)} {σ : L2.St} {H : Hp} {s : Shared} {E : Value → Shared → Prop} {D : Addr} {S : Int → Bool} {n : Nat} {y : Int} {t : Tok} {Q : Value → Shared → Prop} (I : Inv X pins σ H s) (hD : H D = some (SetO X.w D S n)) (room : n + 1 < scanBound)
    (h : ∀ v s', Inv X pins σ (upd H D (SetO X.w D (fun j => S j || decide (j = y)) (if S y = true then n else n + 1))) s' → Q v s') : wpAny (model X.prog X.w) X.A (call (.builtin "set.add") [.ref D, .int y t]) Q E s := by
  refine setR_add (setO_get I hD) room fun h' sb new => h _ _ ?_
  have ho := new.choose_spec.choose_spec.choose_spec.choose_spec.1
  exact I.write (t' := s.toks + 1) (by rw [hD]; trivial) (.inl rfl) (fun b u hb hu => (sb.2 b hb).trans hu) ⟨_, ho⟩ (setO_new new)
theorem pb_add {elt : Expr} {te : TE} {D : Addr} (never : ∀ e s, X.xe e s → False) (he : PE X elt te) : PB X [] (addTo elt (.ref D) X.env) (tAdd X.w D te) := by
  refine ⟨fun pins s σ H Z I q => ?_⟩
  refine wpAny_bind (wpAny_mono (he.run pins s σ H _ I q) (fun u s1 h => wpAny_bind (wpAny_standAt ?_)) never)
  obtain ⟨v, H1, I1, r, c, S, n, rfl, hD, room, z⟩ := h
  obtain ⟨t, rfl⟩ := r
  exact wpAny_bind (add_int I1 hD room fun _ s2 I2 => wpAny_pure ⟨σ, _, I2, .refl, z⟩)
/-- the next clause -/
def tIn (wi : TI) (g : TG) (tt : TT) (tb : TBd) (vs : List Nat) : TBd := fun σ H Z => wi σ H (tLp g tt tb vs σ Z)
theorem pb_in {elt : Expr} {gens : List Comprehension} {sc : Scope} {pos : Pos} {D : Addr} {tg src : Expr} {ifs : List Expr} {k : Nat} {body : Sem Unit} {wi : TI} {g : TG} {tt : TT} {tb : TBd} {wb vs : List Nat} (hc : X.calm = true) (never : ∀ e s, X.xe e s → False)
    (hk : gens[k]? = some ⟨tg, src, ifs, 0⟩) (hC : ∀ it, compTurn (.SetComp elt gens sc pos) k it (.ref D) X.env = turnOf tg src ifs it X.env body (.compLoop (.SetComp elt gens sc pos) k it (.ref D) X.env)) (hs : ∀ x, foldedSetIterable src X.env x = pure x)
    (hi : PI X tg src wi) (hg : PG X tg g) (ht : PTs X ifs tt) (hb : PB X wb body tb) (hw : ∀ j ∈ wb, j ∈ vs) : PB X vs (beginIn (.SetComp elt gens sc pos) src k (.ref D) X.env) (tIn wi g tt tb vs) := by
  refine ⟨fun pins s σ H Z I q => ?_⟩
  refine wpAny_bind (wpAny_mono (hi.run pins s σ H _ I q) (fun u s1 h => wpAny_bind (wpAny_standAt (wpAny_bind (wpAny_of_eq (hs u) (wpAny_bind (wpAny_holding (wpAny_mono h (fun itv s2 h2 => ?_) never))))))) never)
  obtain ⟨it, fp, tn, J, H2, rfl, I2, T, st, hf, q2⟩ := h2
  have loop := clause_run hc never (hC (.ref it)) hg ht hb hw T I2 st hf q2
  refine wpAny_bind (wpAny_runOwn ?_)
  rw [Around.mark_none]
  refine codeAny_mono (clause_start hk rfl loop (T.self _ 0 _ _ _ st loop)) fun r s3 h3 => ?_
  obtain ⟨rfl, H3, I3, _, z⟩ := h3
  exact wpAny_pure ⟨_, H3, I3, ⟨wipe_length _ _, fun j v hj e => by rw [wipe_out hj]; exact e⟩, z⟩
end
theorem wipe_set (τ : L2.St) (v : Nat) : ∀ vs : List Nat, wipe (τ.set v none) vs = (wipe τ vs).set v none
  | [] => rfl
  | u :: vs => by
    unfold wipe
    rw [wipe_set τ v vs]
    by_cases h : v = u
    · subst h; rfl
    · rw [List.set_comm _ _ h]
theorem wipe_wipe (σ : L2.St) : ∀ vs : List Nat, wipe (wipe σ vs) vs = wipe σ vs
  | [] => rfl
  | v :: vs => by
    show (wipe ((wipe σ vs).set v none) vs).set v none = (wipe σ vs).set v none
    rw [wipe_set, wipe_wipe σ vs, List.set_set]
/-! ### the whole of a set's comprehension -/
section
variable {X : Cx}
def tScG (w : World) (wi : TI) (g : TG) (tt : TT) (tb : Addr → TBd) (vs : List Nat) : TE := fun σ H Q => wi σ H fun J H1 => ∀ D, H1 D = none → tLp g tt (tb D) vs σ (Q (.ref D)) J (upd H1 D (SetO w D (fun _ => false) 0))
/-- the block's context -/
abbrev InBlk (X : Cx) (sc : Scope) (B : Cx → Prop) : Prop := ∀ (s : Shared) (H : Hp) (C : Addr) (cl : List (Str × Addr)) (fp : List Addr), B (X.blk s H sc (compEnvC sc cl C X.env) fp)
theorem pe_scG {elt tg src : Expr} {ifs : List Expr} {rest : List Comprehension} {sc : Scope} {pos : Pos} {own : List (Str × Nat)} {wi : TI} {g : TG} {tt : TT} {tb : Addr → TBd} {wb : List Nat} {body : Value → Env → Sem Unit} (hc : X.calm = true) (hN : X.N.Nodup) (hi : PI X tg src wi) (ok : BlkOk X.N X.env.scope sc own) (hw : ∀ j ∈ wb, j ∈ own.map (·.2))
    (hC : ∀ it acc env, compTurn (.SetComp elt (⟨tg, src, ifs, 0⟩ :: rest) sc pos) 0 it acc env = turnOf tg src ifs it env (body acc env) (.compLoop (.SetComp elt (⟨tg, src, ifs, 0⟩ :: rest) sc pos) 0 it acc env))
    (hg : InBlk X sc fun B => PG B tg g) (ht : InBlk X sc fun B => PTs B ifs tt) (hb : InBlk X sc fun B => ∀ D, PB B wb (body (.ref D) B.env) (tb D)) (hs : ∀ x, foldedSetIterable src X.env x = pure x := by intro _; rfl) :
    PE X (.SetComp elt (⟨tg, src, ifs, 0⟩ :: rest) sc pos) (tScG X.w wi g tt tb (own.map (·.2))) := by
  refine ⟨fun pins s σ H Q I q => ?_⟩
  rw [eval_SetComp]
  have free : ∀ y ∈ sc.names, y.2 = .free → ∃ c, X.env.cells.lookup y.1 = some c := fun y hy e => I.ok.has _ ((ok.free y hy e).imp id id)
  refine wpAny_comprehension_free (use := none) rfl hs (closure_ok free) ok.kind (fun y hy e => (ok.uniq y hy).trans (by rw [e])) (thn (hi.run pins s σ H _ I q) fun u s1 h1 => thn h1 fun v s2 h2 => newSet_ok (newEnv_comp ?_))
  obtain ⟨it, fp, tn, J, H2, rfl, I2, T, st, hf, q2⟩ := h2
  -- the new set's address, and the states with it and with the block's frame
  obtain ⟨D, hD⟩ : ∃ D, D = s2.heap.objs.size := ⟨_, rfl⟩
  obtain ⟨s3, hs3⟩ : ∃ s3 : Shared, s3 = { s2 with heap := s2.heap.push { cls := .type "set", dict := none, data := .set #[] 0 (.fresh 0 0 (!X.w.params.followText "set-order")) } } := ⟨_, rfl⟩
  have q3 := q2 D (by rw [hD]; exact I2.hok.fresh (Nat.le_refl _))
  obtain ⟨H3, hH3⟩ : ∃ H3, H3 = upd H2 D (SetO X.w D (fun _ => false) 0) := ⟨_, rfl⟩
  have I3 : Inv X pins σ H3 s3 := by
    subst hs3; subst hH3; subst hD
    exact I2.laid (t' := s2.toks) (fun b o e => Heap.get?_push_of_some _ e) (Nat.le_refl _) (setO_new (setR_fresh X.w))
  have old : ∀ b o, s2.heap.get? b = some o → s3.heap.get? b = some o := fun b o e => by rw [hs3]; exact Heap.get?_push_of_some _ e
  have f3 : ∀ b ∈ fp, FpOk X pins H3 b ∧ b < s3.heap.objs.size := fun b hb => by
    obtain ⟨o, e, _⟩ := T.obj _ _ st b hb
    have lt := Heap.lt_size e
    refine ⟨⟨?_, (hf b hb).2⟩, Heap.lt_size (old b o e)⟩
    rw [hH3, upd_ne (by rw [hD]; exact Nat.ne_of_lt lt)]
    exact (hf b hb).1
  have I4 := block_start I3 ok hN f3
  have B1 := hg s3 H3 s3.heap.objs.size (cellsFrom (s3.heap.objs.size + 1) sc.names (cloFrom X.env.cells sc.names [])) fp
  have B2 := ht s3 H3 s3.heap.objs.size (cellsFrom (s3.heap.objs.size + 1) sc.names (cloFrom X.env.cells sc.names [])) fp
  have B3 := hb s3 H3 s3.heap.objs.size (cellsFrom (s3.heap.objs.size + 1) sc.names (cloFrom X.env.cells sc.names [])) fp D
  have st4 : tn 0 (pushCells (s3.heap.push { cls := .type "dict", data := .dict #[] }) sc.names) := T.keep _ _ _ st fun b _ o e => pushCells_keeps _ _ _ _ (Heap.get?_push_of_some _ (old b o e))
  have hf4 : ∀ b ∈ fp, FpOk (X.blk s3 H3 sc (compEnvC sc (cellsFrom (s3.heap.objs.size + 1) sc.names (cloFrom X.env.cells sc.names [])) s3.heap.objs.size X.env) fp) [] H3 b := fun b hb =>
    ⟨(f3 b hb).1.1, (I4.ok.exf b hb).1, I4.ok.exfs b hb, .inl hb, fun x c e => (I4.ok.exf b hb).2 x c e, fun p hp => by cases hp⟩
  rw [← hH3] at q3
  have loop := clause_run (pins := []) (X := X.blk s3 H3 sc (compEnvC sc (cellsFrom (s3.heap.objs.size + 1) sc.names (cloFrom X.env.cells sc.names [])) s3.heap.objs.size X.env) fp) hc (fun _ _ h => h) (hC (.ref it) (.ref D) _) B1 B2 B3 hw T I4 st4 hf4 (by unfold tLp at q3 ⊢; rw [wipe_wipe]; exact q3)
  -- behind the loop: the def's own context again, and the block's frame let go
  have fin : ∀ s4 : Shared, (∃ H4, Inv (X.blk s3 H3 sc (compEnvC sc (cellsFrom (s3.heap.objs.size + 1) sc.names (cloFrom X.env.cells sc.names [])) s3.heap.objs.size X.env) fp) [] (wipe (wipe σ (own.map (·.2))) (own.map (·.2))) H4 s4 ∧ (∀ b ∈ fp, H4 b = none) ∧ Q (.ref D) H4) →
      ∃ m, s4.heap.Ns s3.heap.objs.size m ∧ ∀ h', Heap.SameBut s3.heap.objs.size s4.heap h' → EP X pins σ Q (.ref D) { s4 with heap := h' } := by
    rintro s4 ⟨H4, I5, _, z⟩
    obtain ⟨m, ns, _⟩ := I5.loc
    refine ⟨m, ns, fun h' sb => ?_⟩
    have I6 : Inv X pins σ H4 s4 := I3.call' (ch := fp) I5.os I5.base I5.hok I5.bare fun b hb => by
      obtain ⟨_, a1, _, a3, a4, a5⟩ := (f3 b hb).1
      exact ⟨a3, a1, a4, a5⟩
    obtain ⟨a0, a1, _, a3, a4, a5⟩ := I3.fpOk (H' := H4) (Nat.le_refl _) I5.free
    exact ⟨.ref D, H4, I6.turned (t' := s4.toks) (fun b o hb e => (sb.2 b hb).trans e) a0 a1 a3 a4 a5, rfl, z⟩
  subst hD; subst hs3
  refine codeAny_mono (clause_start (k := 0) rfl rfl loop (T.self _ 0 _ _ _ st4 loop)) fun r s4 h4 => ?_
  obtain ⟨rfl, h⟩ := h4
  exact fin s4 h
/-- {elt for tg in src if ..} of ints -/
theorem pe_sci1 {elt tg src : Expr} {ifs : List Expr} {sc : Scope} {pos : Pos} {own : List (Str × Nat)} {wi : TI} {g : TG} {tt : TT} {te : TE} (hc : X.calm = true) (hN : X.N.Nodup) (hi : PI X tg src wi) (ok : BlkOk X.N X.env.scope sc own)
    (hg : InBlk X sc fun B => PG B tg g) (ht : InBlk X sc fun B => PTs B ifs tt) (he : InBlk X sc fun B => PE B elt te) (hs : ∀ x, foldedSetIterable src X.env x = pure x := by intro _; rfl) : PE X (.SetComp elt [⟨tg, src, ifs, 0⟩] sc pos) (tScG X.w wi g tt (fun D => tAdd X.w D te) (own.map (·.2))) :=
  pe_scG (rest := []) (wb := []) hc hN hi ok (fun _ h => by cases h) (fun it acc env => turn_s1 ..) hg ht (fun s H C cl fp D => pb_add (fun _ _ h => h) (he s H C cl fp)) hs
/-- {elt for tg in src if .. for tg1 in src1 if ..} of ints -/
theorem pe_sci2 {elt tg src tg1 src1 : Expr} {ifs ifs1 : List Expr} {sc : Scope} {pos : Pos} {own : List (Str × Nat)} {vs1 : List Nat} {wi wi1 : TI} {g g1 : TG} {tt tt1 : TT} {te : TE} (hc : X.calm = true) (hN : X.N.Nodup) (hi : PI X tg src wi) (ok : BlkOk X.N X.env.scope sc own) (hv : ∀ j ∈ vs1, j ∈ own.map (·.2))
    (hg : InBlk X sc fun B => PG B tg g) (ht : InBlk X sc fun B => PTs B ifs tt) (hi1 : InBlk X sc fun B => PI B tg1 src1 wi1) (hg1 : InBlk X sc fun B => PG B tg1 g1) (ht1 : InBlk X sc fun B => PTs B ifs1 tt1) (he : InBlk X sc fun B => PE B elt te)
    (hs : ∀ x, foldedSetIterable src X.env x = pure x := by intro _; rfl) (hs1 : ∀ env x, foldedSetIterable src1 env x = pure x := by intro _ _; rfl) :
    PE X (.SetComp elt [⟨tg, src, ifs, 0⟩, ⟨tg1, src1, ifs1, 0⟩] sc pos) (tScG X.w wi g tt (fun D => tIn wi1 g1 tt1 (tAdd X.w D te) vs1) (own.map (·.2))) :=
  pe_scG (rest := [⟨tg1, src1, ifs1, 0⟩]) (wb := vs1) hc hN hi ok hv (fun it acc env => turn_s2a ..) hg ht
    (fun s H C cl fp D => pb_in (k := 1) hc (fun _ _ h => h) rfl (fun it => turn_s2b ..) (hs1 _) (hi1 s H C cl fp) (hg1 s H C cl fp) (ht1 s H C cl fp) (pb_add (fun _ _ h => h) (he s H C cl fp)) (fun _ h => by cases h)) hs
end
end Co

set_option Elab.async false
set_option linter.all false
set_option maxRecDepth 100000
set_option maxHeartbeats 4000000
namespace Co
open PySem PySem.Spec PyProof.Rows L2
/-! ### zip of a text and a tuple -/
def ItzST (K : PySem.W.Frag) (x : Str) (b : Addr) : It :=
  ⟨fun i H => ∃ (ys : List V), SqT K H b ys ∧ i < x.cps.size ∧ i < ys.length,
    fun i H v H' => ∃ T c y, v = .ref T ∧ H T = none ∧ H' = upd H T (.tup [.str ⟨#[c]⟩, y]) ∧ x.cps[i]? = some c ∧ ∀ ys, SqT K H b ys → ys[i]? = some y,
    fun i H => ∃ ys : List V, SqT K H b ys ∧ i ≤ x.cps.size ∧ i ≤ ys.length ∧ (i = x.cps.size ∨ i = ys.length)⟩
/-- the five objects of such a zip, as they stand before its turn `i` -/
structure ZAt (x : Str) (tk0 : Tok) (b z TI TO i1 i2 : Addr) (i : Nat) (h : Heap) : Prop where
  zip : IsZip h z TI TO .none
  ins : IsTupOf2 h TI (.ref i1) (.ref i2)
  outs : ∃ x y, IsTupOf2 h TO x y
  txt : h.IsStrIter i1 (strIterType x) x tk0 i
  tup : h.IsTupleIter i2 b i
/-- what is asked of each of five may be asked of one after the other -/
theorem all5 {p : Addr → Prop} {a b c d e : Addr} (ha : p a) (hb : p b) (hc : p c) (hd : p d) (he : p e) : ∀ y, y ∈ [a, b, c, d, e] → p y := by
  simpa using ⟨ha, hb, hc, hd, he⟩
theorem no5 {a b c d e y : Addr} (h : y ∉ [a, b, c, d, e]) : y ≠ a ∧ y ≠ b ∧ y ≠ c ∧ y ≠ d ∧ y ≠ e := by
  simpa [not_or] using h
theorem ZAt.small {x : Str} {tk0 : Tok} {b z TI TO i1 i2 : Addr} {i : Nat} {h : Heap} (q : ZAt x tk0 b z TI TO i1 i2 i h) : ∀ c, c ∈ [z, TI, TO, i1, i2] → c < h.objs.size := by
  obtain ⟨_, _, q3⟩ := q.outs
  obtain ⟨_, q4, _⟩ := q.txt
  obtain ⟨_, q5, _⟩ := q.tup
  exact all5 (Heap.lt_size q.zip) (Heap.lt_size q.ins) (Heap.lt_size q3) (Heap.lt_size q4) (Heap.lt_size q5)
theorem sep_of {z TI TO i1 i2 b : Addr} (D : ZipApart z TI TO i1 i2 b b) : ZipSep2 z TI TO i1 i2 [i1] [i2, b] := by
  have h1 := D.i1z.symm
  have h2 := D.i2z.symm
  have h3 := D.l1z.symm
  have h4 := D.l1TO.symm
  have h5 := D.l1i1.symm
  have h6 := D.i12.symm
  constructor <;> simp [D.TIz, D.TOz, D.TITO, D.TIi1, D.TIi2, D.TOi1, D.TOi2, D.i12, h1, h2, h3, h4, h5, h6]
theorem turn_zipST {P : Program} {w : World} {K : PySem.W.Frag} {elts : List Expr} {kk : Nat} {tpos : Pos} {x : Str} {tk0 : Tok} {b z TI TO i1 i2 : Addr} (D : ZipApart z TI TO i1 i2 b b) :
    Turn P w K (.Tuple elts kk tpos) (ItzST K x b) [z, TI, TO, i1, i2] z (ZAt x tk0 b z TI TO i1 i2) where
  mem := List.mem_cons_self
  obj := fun i h q => by
    obtain ⟨_, _, q3⟩ := q.outs
    obtain ⟨_, q4, _, d4⟩ := q.txt
    obtain ⟨_, q5, _, d5⟩ := q.tup
    refine all5 ⟨_, q.zip, ?_⟩ ⟨_, q.ins, ?_⟩ ⟨_, q3, ?_⟩ ⟨_, q4, ?_⟩ ⟨_, q5, ?_⟩ <;> intro v e <;> simp_all
  keep := fun i h h' q k => by
    have k' : ∀ c, c ∈ [z, TI, TO, i1, i2] → ∀ o, h.get? c = some o → h'.get? c = some o := k
    obtain ⟨u, v, q3⟩ := q.outs
    obtain ⟨o4, q4, r4⟩ := q.txt
    exact ⟨k' _ (by simp) _ q.zip, k' _ (by simp) _ q.ins, ⟨u, v, k' _ (by simp) _ q3⟩, ⟨o4, k' _ (by simp) _ q4, r4⟩, q.tup.at (k' _ (by simp))⟩
  item := by
    rintro X rfl rfl rfl hc i pins s σ H E I hf q ⟨ys, hy, l1, l2⟩
    obtain ⟨vs, rv, tv, _⟩ := I.tuple hy
    obtain ⟨_, _, q3⟩ := q.outs
    have hd : X.A.in1.handled = none := I.ok.hd hc
    obtain ⟨u, hu, ru⟩ := rv.get (List.getElem?_eq_getElem l2)
    have lv : i < vs.toArray.size := by
      have := (List.getElem?_eq_some_iff.mp hu).1
      simpa using this
    refine wpAny_pyNext_zipD2_item (sep_of D) (Draws.text hd i1 x tk0) (Draws.tuple hd i2 b D.l1i2 vs.toArray) q.zip q.ins q3 q.txt ⟨q.tup, tv⟩ l1 lv fun a1 a2 h1 t1 P1 P2 z1 o1 f1 f2 new _ kp => ?_
    obtain ⟨c, tc, hx, rfl⟩ := P1
    obtain rfl : u = a2 := by
      have : vs[i]? = some a2 := by simpa using P2
      simpa [hu] using this
    refine ⟨_, rfl, wpAny_letOwnedTupleGo_zip (s := { s with heap := h1, toks := t1 }) z1 fun h2 z2 sb => ?_⟩
    have sm := q.small
    have kp2 : ∀ a o, a ∉ [z, TI, TO, i1, i2] → s.heap.get? a = some o → h2.get? a = some o := fun a o na e => by
      obtain ⟨n1, _, n3, n4, n5⟩ := no5 na
      by_cases hb : a = TI
      · exact absurd hb (no5 na).2.1
      · exact (sb.2 a n1).trans (kp a o n1 n3 n4 n5 e)
    have nt : h2.get? s.heap.objs.size = some { cls := .type "tuple", data := .seq #[.str ⟨#[c]⟩ tc, u] } :=
      (sb.2 _ (Nat.ne_of_gt (sm z (by simp)))).trans new
    have pair : ObjOk X.prog X.w (upd H s.heap.objs.size (.tup [.str ⟨#[c]⟩, ys[i]])) h2 s.heap.objs.size (.tup [.str ⟨#[c]⟩, ys[i]]) :=
      ⟨(by decide : 2 ≤ sizeLine), [.str ⟨#[c]⟩ tc, u], .cons ⟨tc, rfl⟩ (.cons ru .nil), ⟨_, nt, rfl, _, rfl⟩⟩
    have J : L2.Inv X pins σ (upd H s.heap.objs.size (.tup [.str ⟨#[c]⟩, ys[i]])) { s with heap := h2, toks := t1 } :=
      I.turnedNew (t' := t1) (ch := [z, TI, TO, i1, i2]) kp2 hf (Nat.le_refl _) pair
    obtain ⟨ob, g1, r1⟩ := f1
    refine ⟨.ref s.heap.objs.size, _, J, rfl, ⟨_, c, ys[i], rfl, I.hok.fresh (Nat.le_refl _), rfl, hx, fun l hl => ?_⟩,
      { zip := z2, ins := (sb.2 _ D.TIz).trans (kp _ _ D.TIz D.TITO D.TIi1 D.TIi2 q.ins), outs := ⟨_, u, (sb.2 _ D.TOz).trans o1⟩, txt := ⟨ob, (sb.2 _ D.i1z).trans g1, r1⟩, tup := f2.1.at fun o e => (sb.2 _ D.i2z).trans e }, fun a ha => ?_⟩
    · obtain rfl := I.tuple_inj hl hy
      exact List.getElem?_eq_getElem l2
    · exact (upd_ne (Nat.ne_of_lt (sm a ha))).trans (hf a ha).1
  done := by
    rintro X rfl rfl rfl hc i pins s σ H E I hf q ⟨ys, hy, l1, l2, l3⟩
    obtain ⟨vs, rv, tv, _⟩ := I.tuple hy
    obtain ⟨_, _, q3⟩ := q.outs
    have hd : X.A.in1.handled = none := I.ok.hd hc
    have e2 : vs.toArray.size = ys.length := by simpa using rv.length.symm
    refine wpAny_pyNext_zipD2_end (sep_of D) (Draws.text hd i1 x tk0) (Draws.tuple hd i2 b D.l1i2 vs.toArray) q.zip q.ins q3 q.txt ⟨q.tup, tv⟩ l1 (by omega) (by omega) fun h' tk kp => ⟨rfl, I.turnedL (t' := tk) (ch := [z, TI, TO, i1, i2]) (fun a o na e => ?_) hf⟩
    obtain ⟨n1, _, n3, n4, n5⟩ := no5 na
    exact kp a o n1 n3 n4 n5 e
  self := fun _ _ _ _ _ q h => wpAny_pyIter_zip q.zip h
def iZipST (K : PySem.W.Frag) (ta : TA) : TI := fun σ H R => ta σ H fun vs H1 => ∃ x b ys, vs = [.str x, .ref b] ∧ SqT K H1 b ys ∧ R (ItzST K x b) H1
theorem pi_zipST {X : Cx} {e e2 : Expr} {ta : TA} {p pos tpos : Pos} {elts : List Expr} {kk : Nat} (hg : Gl X "zip") (hm : X.mg "zip" = none) (ha : PA X [e, e2] ta)
    (hs : starEach [e, e2] X.env = (false, eval e X.env) :: starEach [e2] X.env := by rfl) (hpl : (backTo pos (starEach [e2] X.env)).any (·.1) = false := by rfl) :
    PI X (.Tuple elts kk tpos) (.Call (.Name "zip" p) [e, e2] [] pos) (iZipST X.K ta) where
  run pins s σ H R I h := by
    have go := ha.run pos pins s σ H _ I h
    refine Call_ (ld_blt I hg hm PyProof.Rows.boot_zip (PyProof.Rows.callWith_type1 (thn go ?_) hs hpl))
    rintro us s1 ⟨vs, H1, J, r1, x, b, ys, rfl, hy, q⟩
    match us, r1 with
    | [_, _], .cons ⟨tk0, rfl⟩ (.cons rfl .nil) =>
      obtain ⟨its, _, tv, _⟩ := J.tuple hy
      obtain ⟨_, hb, _⟩ := id tv
      have lb := Heap.lt_size hb
      let n := s1.heap.objs.size
      have up : ∀ c, c ∈ [n + 4, n + 2, n + 3, n, n + 1] → n ≤ c := all5 (by omega) (by omega) (by omega) (by omega) (by omega)
      refine zip_begins2 (begins_text x tk0) (begins_tuple b its.toArray) trivial (show s1.heap.IsTuple b its.toArray from tv) fun h' q1 q2 q3 q4 q5 _ kp => wpAny_pyIter_zip q1 ?_
      exact ⟨n + 4, [n + 4, n + 2, n + 3, n, n + 1], _, _, H1, rfl, J.kept (t' := s1.toks) kp, turn_zipST (PySem.W.ktu_apart n b b lb lb),
        ⟨q1, q2, ⟨_, _, q3⟩, ⟨_, q4, rfl, rfl⟩, ⟨_, q5, rfl, rfl⟩⟩, fun c hc => J.fpOk (up c hc) (J.hok.fresh (up c hc)), q⟩

open PpSet
theorem pg_tupK {X : Cx} {K' : PySem.W.Frag} {es : List Expr} {k : Nat} {t : TGs} {n : Nat} {pos : Pos} (hK : X.K = K') (hc : X.calm = true) (h : PGs X es t)
    (hn : (assignEach es X.env).length = n := by rfl) (hst : (assignEach es X.env).findIdx? (·.1) = none := by rfl) : PG X (.Tuple es k pos) (gTup K' n t) := by
  subst hK
  exact pg_tup hc h hn hst
section
variable {X : Cx} {K' : PySem.W.Frag}
theorem op_in_seqK (hK : X.K = K') : OpR X (compareOp .In) (rIn K' false) := by subst hK; exact op_in_seq
theorem op_notIn_seqK (hK : X.K = K') : OpR X (compareOp .NotIn) (rIn K' true) := by subst hK; exact op_notIn_seq
theorem ix_listK (hK : X.K = K') : IxR X (rIxL K') := by subst hK; exact ix_list
theorem ix_tupK (hK : X.K = K') : IxR X (rIxT K') := by subst hK; exact ix_tup
theorem call_lenQK (hK : X.K = K') : CallR X (.builtin "len") (rLenQ K') := by subst hK; exact call_lenQ
end
/-! ### readings of these -/
def kZ (K : PySem.W.Frag) (R : It → Hp → Prop) : List V → Hp → Prop := fun vs H1 => ∃ x b ys, vs = [.str x, .ref b] ∧ SqT K H1 b ys ∧ R (ItzST K x b) H1
theorem w_zST {K : PySem.W.Frag} {ta : TA} {σ : L2.St} {H : Hp} {R : It → Hp → Prop} (q : ta σ H (kZ K R)) : iZipST K ta σ H R := q
theorem w_forZ {K : PySem.W.Frag} {g : TG} {tb : TS} {D : Ends} {σ : L2.St} {H : Hp} {x : Str} {b : Addr} (ys : List V) (Pv : Nat → L2.St → Hp → Prop) (hq : SqT K H b ys) (hle : x.cps.size = ys.length) (h0 : Pv 0 σ H) (hl : ∀ i σ H, Pv i σ H → SqT K H b ys)
    (hs : ∀ i c y T σ H H', x.cps[i]? = some c → ys[i]? = some y → Pv i σ H → H T = none → Same H H' → H' T = some (.tup [.str ⟨#[c]⟩, y]) → g (.ref T) σ H' fun σ2 H2 => tb { D with nx := Pv (i + 1), ct := Pv (i + 1), bk := D.nx } σ2 H2)
    (hd : ∀ σ H, Pv ys.length σ H → D.nx σ H) : kZ K (kFor g tb D σ) [.str x, .ref b] H := by
  refine ⟨x, b, ys, rfl, hq, fun i m σ H => m = ys.length - i ∧ i ≤ ys.length ∧ Pv i σ H, ⟨ys.length, by simp, Nat.zero_le _, h0⟩, ?_⟩
  rintro i m σ H ⟨rfl, hi, p⟩
  have q := hl i σ H p
  by_cases hlt : i < ys.length
  · refine .inr ⟨⟨ys, q, by omega, hlt⟩, Pv (i + 1), fun σ' H' p' => ⟨ys.length - (i + 1), by omega, rfl, hlt, p'⟩, fun v H' y => ?_⟩
    obtain ⟨T, c, y, rfl, nT, rfl, hc, hy⟩ := y
    exact hs i c y T σ H _ hc (hy ys q) p nT (Same.new nT) upd_same
  · have e : i = ys.length := by omega
    subst e
    exact .inl ⟨⟨ys, q, by omega, Nat.le_refl _, .inr rfl⟩, hd σ H p⟩
theorem w_lcZ {K : PySem.W.Frag} {g : TG} {tt : TT} {te : TE} {vs : List Nat} {σ : L2.St} {H : Hp} {Q : VK} {x : Str} {b : Addr} (ys : List V) (Pv : Addr → Nat → Hp → Prop) (hq : SqT K H b ys) (hle : x.cps.size = ys.length) (h0 : ∀ D, H D = none → Pv D 0 (upd H D (.lst []))) (hl : ∀ D i H, Pv D i H → SqT K H b ys)
    (hs : ∀ D i c y T H H', x.cps[i]? = some c → ys[i]? = some y → Pv D i H → H T = none → Same H H' → H' T = some (.tup [.str ⟨#[c]⟩, y]) → g (.ref T) (wipe σ vs) H' fun σ2 H2 => wipe σ2 vs = wipe σ vs ∧ tt σ2 H2 fun b H3 =>
      if b = true then te σ2 H3 fun y H4 => ∃ acc, H4 D = some (.lst acc) ∧ acc.length < sizeLine ∧ Pv D (i + 1) (upd H4 D (.lst (acc ++ [y]))) else Pv D (i + 1) H3) (hd : ∀ D H', H D = none → Pv D ys.length H' → Q (.ref D) H') : kZ K (kLc g tt te vs σ Q) [.str x, .ref b] H := by
  refine ⟨x, b, ys, rfl, hq, fun D nD => ⟨fun i m H => m = ys.length - i ∧ i ≤ ys.length ∧ Pv D i H, ⟨ys.length, by simp, Nat.zero_le _, h0 D nD⟩, ?_⟩⟩
  rintro i m H' ⟨rfl, hi, p⟩
  have q := hl D i H' p
  by_cases hlt : i < ys.length
  · refine .inr ⟨⟨ys, q, by omega, hlt⟩, Pv D (i + 1), fun H2 p' => ⟨ys.length - (i + 1), by omega, rfl, hlt, p'⟩, fun v H2 y => ?_⟩
    obtain ⟨T, c, y, rfl, nT, rfl, hc, hy⟩ := y
    exact hs D i c y T H' _ hc (hy ys q) p nT (Same.new nT) upd_same
  · have e : i = ys.length := by omega
    subst e
    exact .inl ⟨⟨ys, q, by omega, Nat.le_refl _, .inr rfl⟩, hd D H' nD p⟩
def kSt (R : It → Hp → Prop) : V → Hp → Prop := fun v H1 => ∃ x, v = .str x ∧ R (Its x) H1
theorem w_iSt {te : TE} {σ : L2.St} {H : Hp} {R : It → Hp → Prop} (q : te σ H (kSt R)) : iStr te σ H R := q
theorem w_forS {g : TG} {tb : TS} {D : Ends} {σ : L2.St} {H : Hp} {x : Str} (Pv : Nat → L2.St → Hp → Prop) (h0 : Pv 0 σ H)
    (hs : ∀ i c σ H, x.cps[i]? = some c → Pv i σ H → g (.str ⟨#[c]⟩) σ H fun σ2 H2 => tb { D with nx := Pv (i + 1), ct := Pv (i + 1), bk := D.nx } σ2 H2)
    (hd : ∀ σ H, Pv x.cps.size σ H → D.nx σ H) : kSt (kFor g tb D σ) (.str x) H := by
  refine ⟨x, rfl, fun i m σ H => m = x.cps.size - i ∧ i ≤ x.cps.size ∧ Pv i σ H, ⟨x.cps.size, by simp, Nat.zero_le _, h0⟩, ?_⟩
  rintro i m σ H ⟨rfl, hi, p⟩
  by_cases hlt : i < x.cps.size
  · refine .inr ⟨hlt, Pv (i + 1), fun σ' H' p' => ⟨x.cps.size - (i + 1), by omega, rfl, hlt, p'⟩, fun v H' y => ?_⟩
    obtain ⟨rfl, c, hc, rfl⟩ := y
    exact hs i c σ _ hc p
  · have e : i = x.cps.size := by omega
    subst e
    exact .inl ⟨Nat.le_refl _, hd σ H p⟩
/-- t[1:] of a tuple of two and more -/
theorem w_sl {r : V → Option Int → Option Int → Hp → VK → Prop} {te : TE} {tl th : TO} {σ : L2.St} {H : Hp} {Q : VK} (q : te σ H fun x H1 => tl σ H1 fun l H2 => th σ H2 fun u H3 => r x l u H3 Q) : tSl r te tl th σ H Q := q
theorem w_part {te : TE} {σ : L2.St} {H : Hp} {Q : Option Int → Hp → Prop} (q : te σ H fun x H1 => ∃ i, x = .int i ∧ Q (some i) H1) : tPart te σ H Q := q
theorem w_noPart {σ : L2.St} {H : Hp} {Q : Option Int → Hp → Prop} (q : Q none H) : tNoPart σ H Q := q
theorem w_exI {i : Int} {Q : Int → Prop} (q : Q i) : ∃ j, V.int i = .int j ∧ Q j := ⟨i, rfl, q⟩
theorem w_rSl1 {K : PySem.W.Frag} {H : Hp} {Q : VK} {a : Addr} {v y : V} {r : List V} (h : SqT K H a (v :: y :: r)) (q : ∀ p H', H p = none → Same H H' → H' p = some (.tup (y :: r)) → Q (.ref p) H') : rSlA K (.ref a) (some 1) none H Q := by
  refine ⟨a, _, rfl, h, fun ⟨e, _⟩ => ?_, fun _ p np => ?_⟩
  · rw [show HT.sIx (v :: y :: r).length 0 (some 1) = min 1 (v :: y :: r).length from HT.sIx_nat _ 0 1] at e
    simp at e
  · refine q p _ np (Same.new np) ?_
    have e : cutV (v :: y :: r) (some 1) none = y :: r := by
      unfold cutV
      rw [show HT.sIx (v :: y :: r).length 0 (some 1) = min 1 (v :: y :: r).length from HT.sIx_nat _ 0 1, HT.sIx_none]
      rw [show min 1 (v :: y :: r).length = 1 by simp]
      simp
    rw [e]; exact upd_same
def kScG (w : World) (g : TG) (tt : TT) (tb : Addr → TBd) (vs : List Nat) (σ : L2.St) (Q : VK) : It → Hp → Prop := fun J H1 => ∀ D, H1 D = none → tLp g tt (tb D) vs σ (Q (.ref D)) J (upd H1 D (SetO w D (fun _ => false) 0))
theorem w_sc {w : World} {wi : TI} {g : TG} {tt : TT} {tb : Addr → TBd} {vs : List Nat} {σ : L2.St} {H : Hp} {Q : VK} (q : wi σ H (kScG w g tt tb vs σ Q)) : tScG w wi g tt tb vs σ H Q := q
/-- a clause's loop over a list or a tuple, by an invariant -/
theorem w_lpG {It0 : It} {g : TG} {tt : TT} {tb : TBd} {vs : List Nat} {σ : L2.St} {H : Hp} {Z : Hp → Prop} (xs : List V) (Pv : Nat → Hp → Prop) (h0 : Pv 0 H) (go : ∀ i H, i < xs.length → Pv i H → It0.go i H) (stop : ∀ H, Pv xs.length H → It0.stop xs.length H) (yld : ∀ i H x H', Pv i H → It0.yld i H x H' → H' = H ∧ xs[i]? = some x)
    (hs : ∀ i x H, xs[i]? = some x → Pv i H → g x (wipe σ vs) H fun σ2 H2 => wipe σ2 vs = wipe σ vs ∧ tt σ2 H2 fun b H3 => if b = true then tb σ2 H3 (Pv (i + 1)) else Pv (i + 1) H3) (hd : ∀ H, Pv xs.length H → Z H) : tLp g tt tb vs σ Z It0 H := by
  refine ⟨fun i m H => m = xs.length - i ∧ i ≤ xs.length ∧ Pv i H, ⟨xs.length, by simp, Nat.zero_le _, h0⟩, ?_⟩
  rintro i m H' ⟨rfl, hi, p⟩
  rcases Nat.lt_or_ge i xs.length with lt | ge
  · refine .inr ⟨go i H' lt p, Pv (i + 1), fun H2 p2 => ⟨xs.length - (i + 1), by omega, rfl, lt, p2⟩, fun v H2 y => ?_⟩
    obtain ⟨rfl, e⟩ := yld i H' v H2 p y
    exact hs i v _ e p
  · obtain rfl : i = xs.length := by omega
    exact .inl ⟨stop H' p, hd H' p⟩
theorem w_lpL {K : PySem.W.Frag} {g : TG} {tt : TT} {tb : TBd} {vs : List Nat} {σ : L2.St} {H : Hp} {Z : Hp → Prop} {a : Addr} (xs : List V) (Pv : Nat → Hp → Prop) (h0 : Pv 0 H) (hl : ∀ i H, Pv i H → SqL K H a xs)
    (hs : ∀ i x H, xs[i]? = some x → Pv i H → g x (wipe σ vs) H fun σ2 H2 => wipe σ2 vs = wipe σ vs ∧ tt σ2 H2 fun b H3 => if b = true then tb σ2 H3 (Pv (i + 1)) else Pv (i + 1) H3) (hd : ∀ H, Pv xs.length H → Z H) : tLp g tt tb vs σ Z (Itl K a) H :=
  w_lpG xs Pv h0 (fun i H lt p => ⟨xs, xs[i], hl i H p, by simp [lt]⟩) (fun H p => ⟨xs, hl _ H p, Nat.le_refl _⟩) (fun i H x H' p y => ⟨y.1, y.2 xs (hl i H p)⟩) hs hd
theorem w_lpT {K : PySem.W.Frag} {g : TG} {tt : TT} {tb : TBd} {vs : List Nat} {σ : L2.St} {H : Hp} {Z : Hp → Prop} {a : Addr} (xs : List V) (Pv : Nat → Hp → Prop) (h0 : Pv 0 H) (hl : ∀ i H, Pv i H → SqT K H a xs)
    (hs : ∀ i x H, xs[i]? = some x → Pv i H → g x (wipe σ vs) H fun σ2 H2 => wipe σ2 vs = wipe σ vs ∧ tt σ2 H2 fun b H3 => if b = true then tb σ2 H3 (Pv (i + 1)) else Pv (i + 1) H3) (hd : ∀ H, Pv xs.length H → Z H) : tLp g tt tb vs σ Z (Itt K a) H :=
  w_lpG xs Pv h0 (fun i H lt p => ⟨xs, xs[i], hl i H p, by simp [lt]⟩) (fun H p => ⟨xs, hl _ H p, Nat.le_refl _⟩) (fun i H x H' p y => ⟨y.1, y.2 xs (hl i H p)⟩) hs hd
theorem w_scL {K : PySem.W.Frag} {w : World} {g : TG} {tt : TT} {te : TE} {vs : List Nat} {σ : L2.St} {H : Hp} {Q : VK} {a : Addr} (xs : List V) (Pv : Addr → Nat → Hp → Prop) (hS : SqL K H a xs) (h0 : ∀ D, H D = none → Pv D 0 (upd H D (SetO w D (fun _ => false) 0))) (hl : ∀ D i H, Pv D i H → SqL K H a xs)
    (hs : ∀ D i x H, xs[i]? = some x → Pv D i H → g x (wipe σ vs) H fun σ2 H2 => wipe σ2 vs = wipe σ vs ∧ tt σ2 H2 fun b H3 => if b = true then te σ2 H3 fun y H4 => ∃ (c : Int) (S : Int → Bool) (n : Nat), y = .int c ∧ H4 D = some (SetO w D S n) ∧ n + 1 < scanBound ∧ Pv D (i + 1) (upd H4 D (SetO w D (fun j => S j || decide (j = c)) (if S c = true then n else n + 1))) else Pv D (i + 1) H3)
    (hd : ∀ D H', H D = none → Pv D xs.length H' → Q (.ref D) H') : kIL K (kScG w g tt (fun D => tAdd w D te) vs σ Q) (.ref a) H :=
  ⟨a, rfl, ⟨_, hS⟩, fun D nD => w_lpL xs (Pv D) (h0 D nD) (hl D) (hs D) fun H' p => hd D H' nD p⟩
theorem asc_eq : ∀ {l m : List Int}, l.Pairwise (· < ·) → m.Pairwise (· < ·) → (∀ k, k ∈ l ↔ k ∈ m) → l = m
  | [], [], _, _, _ => rfl
  | [], y :: m, _, _, h => by have := (h y).mpr (by simp); simp at this
  | x :: l, [], _, _, h => by have := (h x).mp (by simp); simp at this
  | x :: l, y :: m, p, q, h => by
    rw [List.pairwise_cons] at p q
    have e : x = y := by
      have a := (h x).mp (by simp)
      have b := (h y).mpr (by simp)
      rw [List.mem_cons] at a b
      rcases a with a | a
      · exact a
      · rcases b with b | b
        · exact b.symm
        · have := q.1 x a; have := p.1 y b; omega
    subst e
    congr 1
    refine asc_eq p.2 q.2 fun k => ⟨fun hk => ?_, fun hk => ?_⟩
    · have := (h k).mp (List.mem_cons_of_mem _ hk)
      rw [List.mem_cons] at this
      rcases this with e | e
      · subst e; have := p.1 k hk; omega
      · exact e
    · have := (h k).mpr (List.mem_cons_of_mem _ hk)
      rw [List.mem_cons] at this
      rcases this with e | e
      · subst e; have := q.1 k hk; omega
      · exact e
/-! ### texts, indices, sets -/
def Evl0.rInSQ : R2 := fun x y H Q => ∃ (c : Nat) (z : Str), x = .str ⟨#[c]⟩ ∧ y = .str z ∧ Q (.bl (decide (c ∈ z.cps.toList))) H
theorem op_inSQ {X : Cx} : OpR X (compareOp .In) Evl0.rInSQ := op_in_sign
theorem w_m1 {r : V → List V → Hp → VK → Prop} {to te : TE} {σ : L2.St} {H : Hp} {Q : VK} (q : to σ H fun x H1 => (∃ a, x = .str a) ∧ te σ H1 fun y H2 => r x [y] H2 Q) : tM1 r to te σ H Q := q
theorem w_isS {a : Str} {B : Prop} (q : B) : (∃ b, V.str a = .str b) ∧ B := ⟨⟨a, rfl⟩, q⟩
def rStartsQ : V → List V → Hp → VK → Prop := fun x xs H Q => ∃ a b, x = .str a ∧ xs = [.str b] ∧ Q (.bl (Txt.startswith a b)) H
theorem mt_startsQ {X : Cx} : MtR X "str.startswith" rStartsQ := mt_startswith
theorem w_starts {a b : Str} {H : Hp} {Q : VK} (q : Q (.bl (Txt.startswith a b)) H) : rStartsQ (.str a) [.str b] H Q := ⟨a, b, rfl, rfl, q⟩
def rTIxQ (K : PySem.W.Frag) : V → List V → Hp → VK → Prop := fun x xs H Q => ∃ p, ∃ ys : List Str, ∃ z j, x = .ref p ∧ xs = [.str z] ∧ SqT K H p (ys.map V.str) ∧ ys[j]? = some z ∧ (∀ m, m < j → ys[m]? ≠ some z) ∧ Q (.int (j : Nat)) H
theorem mt_tupIxQ {X : Cx} : MtR X "tuple.index" (rTIxQ X.K) := mt_tup_index
theorem w_tix {K : PySem.W.Frag} {O : Addr} {ys : List Str} {z : Str} {j : Nat} {H : Hp} {Q : VK} (h : SqT K H O (ys.map V.str)) (h1 : ys[j]? = some z) (h2 : ∀ m, m < j → ys[m]? ≠ some z) (q : Q (.int (j : Nat)) H) : rTIxQ K (.ref O) [.str z] H Q := ⟨O, ys, z, j, rfl, rfl, h, h1, h2, q⟩
theorem w_aug {te : TE} {ti : TIp} {D : Ends} {σ : L2.St} {H : Hp} {i : Nat} {x : V} (h : σ[i]? = some (some x)) (q : te σ H fun y H1 => ti x y H1 fun z H2 => D.nx (σ.set i (some z)) H2) : tAug i te ti D σ H := ⟨x, h, q⟩
theorem w_ipI {f : Int → Int → Int} {i j : Int} {H : Hp} {Q : VK} (q : Q (.int (f i j)) H) : ipI f (.int i) (.int j) H Q := ⟨i, j, rfl, rfl, q⟩
theorem w_lenTs {K : PySem.W.Frag} {p : Addr} {xs : List V} {H : Hp} {Q : VK} (h : SqT K H p xs) (q : Q (.int (xs.length : Int)) H) : rLenQ K [.ref p] H Q := ⟨p, xs, rfl, .inr h, q⟩
theorem w_stR {K : PySem.W.Frag} {p : Addr} {xs : List V} {H : Hp} {B : List V → Prop} (h : H p = some (.lst xs)) (q : B xs) : ∃ p' xs', V.ref p = .ref p' ∧ (SqT K H p' xs' ∨ SqL K H p' xs') ∧ B xs' := ⟨p, xs, rfl, .inr (.of h), q⟩
theorem eqV_str {a b : Str} : eqV (.str a) (.str b) = (a == b) := rfl
theorem w_lix {K : PySem.W.Frag} {p : Addr} {ys : List Str} {z : Str} {j : Nat} {H : Hp} {Q : VK} (h : H p = some (.lst (ys.map V.str))) (h1 : ys[j]? = some z) (h2 : ∀ m, m < j → ys[m]? ≠ some z) (q : Q (.int (j : Nat)) H) : rIndex K (.ref p) [.str z] H Q := by
  refine ⟨p, ys.map V.str, .str z, j, .str z, rfl, rfl, .of h, rfl, ?_, ?_, ?_, fun m y hm hy => ?_, q⟩
  · rw [List.all_eq_true]
    intro v hv
    obtain ⟨s, _, rfl⟩ := List.mem_map.mp hv
    rfl
  · rw [List.getElem?_map, h1]; rfl
  · rw [eqV_str]; exact beq_self_eq_true z
  · rw [List.getElem?_map] at hy
    cases e : ys[m]? with
    | none => rw [e] at hy; cases hy
    | some s =>
      rw [e] at hy
      cases hy
      rw [eqV_str]
      exact beq_eq_false_iff_ne.mpr fun z' => h2 m hm (by rw [e, z'])
theorem _root_.L2.Same.sqT {K : PySem.W.Frag} {H H' : Hp} {a : Addr} {xs : List V} (e : Same H H') (h : SqT K H a xs) : SqT K H' a xs := by
  rcases h with (h | ⟨o, h⟩) | h
  · exact .inl (.inl (e _ _ h))
  · exact .inl (.inr ⟨o, e _ _ h⟩)
  · exact .inr h
theorem w_lenTn {K : PySem.W.Frag} {p : Addr} {xs : List V} {H : Hp} {Q : VK} (n : Nat) (h : SqT K H p xs) (e : xs.length = n) (q : Q (.int (n : Int)) H) : rLenQ K [.ref p] H Q := ⟨p, xs, rfl, .inr h, by rw [e]; exact q⟩
theorem w_bm {K : PySem.W.Frag} {T : String} {r : V → List V → Hp → VK → Prop} {to : TE} {t : TA} {σ : L2.St} {H : Hp} {Q : VK} (q : to σ H fun x H1 => tyV K T x H1 ∧ t σ H1 fun xs H2 => r x xs H2 Q) : tBM K T r to t σ H Q := q
theorem w_tyL {K : PySem.W.Frag} {p : Addr} {xs : List V} {H : Hp} {B : Prop} (h : H p = some (.lst xs)) (q : B) : tyV K "list" (.ref p) H ∧ B := ⟨.inl ⟨rfl, xs, .inl (.inl h)⟩, q⟩
theorem w_append {p : Addr} {xs : List V} {y : V} {H : Hp} {Q : VK} (h : H p = some (.lst xs)) (hl : xs.length < sizeLine) (q : ∀ H', H' p = some (.lst (xs ++ [y])) → But p H H' → Q .non H') : rAppend (.ref p) [y] H Q := ⟨p, xs, y, rfl, rfl, h, hl, q _ upd_same But.set⟩
def rListQ (K : PySem.W.Frag) : List V → Hp → VK → Prop := fun xs H Q => ∃ p ys, xs = [.ref p] ∧ (SqL K H p ys ∨ SqT K H p ys) ∧ ∀ l, H l = none → Q (.ref l) (upd H l (.lst ys))
theorem call_listQ {X : Cx} : CallR X (.type "list") (rListQ X.K) := call_list_of
theorem w_listT {K : PySem.W.Frag} {p : Addr} {ys : List V} {H : Hp} {Q : VK} (h : SqT K H p ys) (q : ∀ l H', H l = none → Same H H' → H' l = some (.lst ys) → Q (.ref l) H') : rListQ K [.ref p] H Q := ⟨p, ys, rfl, .inr h, fun l nl => q l _ nl (Same.new nl) upd_same⟩
theorem w_listL {K : PySem.W.Frag} {p : Addr} {ys : List V} {H : Hp} {Q : VK} (h : SqL K H p ys) (q : ∀ l H', H l = none → Same H H' → H' l = some (.lst ys) → Q (.ref l) H') : rListQ K [.ref p] H Q := ⟨p, ys, rfl, .inl h, fun l nl => q l _ nl (Same.new nl) upd_same⟩
def rTupQ (K : PySem.W.Frag) : List V → Hp → VK → Prop := fun xs H Q => ∃ p ys, xs = [.ref p] ∧ ((SqL K H p ys ∧ ∀ l, H l = none → Q (.ref l) (upd H l (.tup ys))) ∨ (SqT K H p ys ∧ Q (.ref p) H))
theorem call_tupQ {X : Cx} : CallR X (.type "tuple") (rTupQ X.K) := call_tuple_of
theorem w_tupL {K : PySem.W.Frag} {p : Addr} {ys : List V} {H : Hp} {Q : VK} (h : SqL K H p ys) (q : ∀ l H', H l = none → Same H H' → H' l = some (.tup ys) → Q (.ref l) H') : rTupQ K [.ref p] H Q := ⟨p, ys, rfl, .inl ⟨h, fun l nl => q l _ nl (Same.new nl) upd_same⟩⟩
theorem w_sortedSet {w : World} {a : Addr} {S : Int → Bool} {n : Nat} {H : Hp} {Q : VK} (h : H a = some (SetO w a S n)) (hn : n < 64) (q : ∀ (ns : List Int) (p : Addr) H', ns.Pairwise (· < ·) → (∀ k : Int, k ∈ ns ↔ S k = true) → ns.length = n → H p = none → Same H H' → H' p = some (.lst (ns.map V.int)) → Q (.ref p) H') : rSortedSet w [.ref a] H Q :=
  ⟨a, S, n, rfl, h, hn, fun ns p h1 h2 h3 np => q ns p _ h1 h2 h3 np (Same.new np) upd_same⟩
theorem w_star {K : PySem.W.Frag} {te : TE} {t : TA} {σ : L2.St} {H : Hp} {Q : List V → Hp → Prop} (q : te σ H fun x H1 => ∃ p xs, x = V.ref p ∧ (SqT K H1 p xs ∨ SqL K H1 p xs) ∧ t σ H1 fun ys H2 => Q (xs ++ ys) H2) : StX.tStar K te t σ H Q := q
theorem w_inSg {c : Nat} {z : Str} {H : Hp} {Q : VK} (q : Q (.bl (decide (c ∈ z.cps.toList))) H) : Evl0.rInSQ (.str ⟨#[c]⟩) (.str z) H Q := ⟨c, z, rfl, rfl, q⟩
theorem w_eqD {K : PySem.W.Frag} {x y : V} {d : PyData} {H : Hp} {Q : VK} (h1 : Dp K H x d) (h2 : Dp K H y d) (hs : SeqAt.shaped d = true) (q : Q (.bl true) H) : rEqD K x y H Q := ⟨d, d, h1, h2, hs, hs, by rw [SeqAt.eqv_refl _ (SeqAt.canLay_of_shaped hs)]; exact q⟩
theorem w_neD {K : PySem.W.Frag} {x y : V} {d : PyData} {H : Hp} {Q : VK} (h1 : Dp K H x d) (h2 : Dp K H y d) (hs : SeqAt.shaped d = true) (q : Q (.bl false) H) : rNeD K x y H Q := ⟨d, d, h1, h2, hs, hs, by rw [SeqAt.eqv_refl _ (SeqAt.canLay_of_shaped hs)]; exact q⟩
end Co

set_option Elab.async false
set_option linter.all false
set_option maxRecDepth 100000
set_option maxHeartbeats 4000000
namespace Co
open PySem PySem.Spec PyProof.Rows L2
open AutoSeq1 (wpAny_loadPart')
/-! ### enumerate of a tuple -/
abbrev tupIt (t : Addr) : Obj := { cls := .type "tuple_iterator", data := .fields #[.ref t, .int 0 0] }
abbrev enumOb (it : Addr) : Obj := { cls := .type "enumerate", data := .fields #[.none, .bool false, .ref it, rawInt 0, .none, .none] }
theorem iter_tup {prog : Program} {w : World} {A : Around} {E : Value → Shared → Prop} {s : Shared} {t : Addr} {items : Array Value} {Q : Value → Shared → Prop} (h : s.heap.IsTuple t items) (q : Q (.ref s.heap.objs.size) { s with heap := s.heap.push (tupIt t) }) : wpAny (model prog w) A (pyIter (.ref t)) Q E s :=
  (begins_tuple t items).iter prog w A E s Q h q
theorem meets_enumT (t : Addr) (o : Obj) (items : Array Value) (ho : o.cls = .type "tuple") :
    Meets (Builtin.«enumerate.__new__» ⟨[.type "enumerate", .ref t], []⟩) (fun _ R s => (s.heap.get? t = some o ∧ s.heap.IsTuple t items) ∧
      R (.ok (.ret (.ref (s.heap.push (tupIt t)).objs.size))) { s with heap := (s.heap.push (tupIt t)).push (enumOb s.heap.objs.size) }) :=
  .of_wp fun prog w A R s h => by
    obtain ⟨hp, g, d, tk, os⟩ := s; obtain ⟨⟨hl, hT⟩, h⟩ := h
    obtain ⟨c, dct, dt, sl⟩ := o
    replace ho : c = .type "tuple" := ho
    subst ho
    have hsub := sub_enumerate
    wp_walk using wpAny_loadPart' hl
    refine wpAny_stack_any fun st => wpAny_pure ?_
    split
    · rename_i c _ _ _ _ _
      cases (c == Value.type "enumerate")
      · wp_walk using wpAny_loadPart' hl, iter_tup hT
        exact ⟨_, rfl, h⟩
      · wp_walk using wpAny_loadPart' hl, iter_tup hT
        exact ⟨_, rfl, h⟩
    · wp_walk using wpAny_loadPart' hl, iter_tup hT
      exact ⟨_, rfl, h⟩
theorem call_enumT {prog : Program} {w : World} {A : Around} {E : Value → Shared → Prop} {s : Shared} {t : Addr} {items : Array Value} {Q : Value → Shared → Prop} (hT : s.heap.IsTuple t items)
    (q : ∀ h', IsEnum h' (s.heap.objs.size + 1) s.heap.objs.size 0 .none → h'.IsTupleIter s.heap.objs.size t 0 → (∀ b o, s.heap.get? b = some o → h'.get? b = some o) → Q (.ref (s.heap.objs.size + 1)) { s with heap := h' }) :
    wpAny (model prog w) A (call (.type "enumerate") [.ref t]) Q E s := by
  obtain ⟨o, ho, hc, hd⟩ := id hT
  refine callType_new F.called_enumerate (by decide) (F.typeCall_enumerate_1 _) (F.newCall_enumerate_1 _) (fun obj => F.args_object_init_2 obj _) F.entry_enumerate_new (meets_enumT t o items hc) ⟨⟨ho, hT⟩, ?_⟩
  have hz : (s.heap.push (tupIt t)).objs.size = s.heap.objs.size + 1 := Heap.size_push ..
  have he : IsEnum ((s.heap.push (tupIt t)).push (enumOb s.heap.objs.size)) (s.heap.objs.size + 1) s.heap.objs.size 0 .none := by
    have z := Heap.get?_push_size (s.heap.push (tupIt t)) (o := enumOb s.heap.objs.size) rfl
    rw [hz] at z; exact z
  show _ ∧ _
  rw [hz]
  exact ⟨⟨_, he, rfl⟩, q _ he ⟨_, Heap.get?_push_of_some _ (Heap.get?_push_size _ rfl), rfl, rfl⟩ fun b o x => Heap.get?_push_of_some _ (Heap.get?_push_of_some _ x)⟩
def IteT (K : PySem.W.Frag) (a : Addr) : It :=
  ⟨fun i H => ∃ xs x, SqT K H a xs ∧ xs[i]? = some x,
    fun i H v H' => ∃ T x, v = .ref T ∧ H T = none ∧ H' = upd H T (.tup [.int (i : Nat), x]) ∧ ∀ xs, SqT K H a xs → xs[i]? = some x,
    fun i H => ∃ xs, SqT K H a xs ∧ xs.length = i⟩
/-- the two objects of such an enumerate, as they stand before its turn `i` -/
structure EAt (a e it : Addr) (i : Nat) (h : Heap) : Prop where
  num : ∃ old, IsEnum h e it ((i : Nat) : Int) old
  tup : h.IsTupleIter it a i
theorem all2 {p : Addr → Prop} {a b : Addr} (ha : p a) (hb : p b) : ∀ y, y ∈ [a, b] → p y := by simpa using ⟨ha, hb⟩
theorem EAt.small {a e it : Addr} {i : Nat} {h : Heap} (q : EAt a e it i h) : ∀ c, c ∈ [e, it] → c < h.objs.size := by
  obtain ⟨_, q1⟩ := q.num
  obtain ⟨_, q2, _⟩ := q.tup
  exact all2 (Heap.lt_size q1) (Heap.lt_size q2)
theorem turn_enumT {P : Program} {w : World} {K : PySem.W.Frag} {elts : List Expr} {kk : Nat} {tpos : Pos} (a e it : Addr) (na : a ≠ it) (ne : e ≠ it) (nea : e ≠ a) :
    Turn P w K (.Tuple elts kk tpos) (IteT K a) [e, it] e (EAt a e it) where
  mem := List.mem_cons_self
  obj := fun i h q => by
    obtain ⟨_, q1⟩ := q.num
    obtain ⟨_, q2, _, d2⟩ := q.tup
    refine all2 ⟨_, q1, ?_⟩ ⟨_, q2, ?_⟩ <;> intro v z <;> simp_all
  keep := fun i h h' q k => by
    obtain ⟨old, q1⟩ := q.num
    exact ⟨⟨old, k e (by simp) _ q1⟩, q.tup.at (k it (by simp))⟩
  item := by
    rintro X rfl rfl rfl hc i pins s σ H E I hf q ⟨xs, x, hy, hx⟩
    obtain ⟨vs, rv, tv, _⟩ := I.tuple hy
    obtain ⟨old, q1⟩ := q.num
    have sm := q.small
    have hd : X.A.in1.handled = none := I.ok.hd hc
    obtain ⟨u, hu, ru'⟩ := rv.get hx
    have lv : i < vs.toArray.size := by
      have := (List.getElem?_eq_some_iff.mp hu).1
      simpa using this
    refine wpAny_pyNext_enum_itemD (Draws.tuple hd it a na vs.toArray) q1 ⟨q.tup, tv⟩ lv ne (by simpa using ⟨ne, nea⟩) fun y h1 t1 Py o1 f1 new _ kp => ?_
    obtain rfl : u = y := by
      have : vs[i]? = some y := by simpa using Py
      simpa [hu] using this
    refine ⟨_, rfl, wpAny_letOwnedTupleGo_enum (s := { s with heap := h1, toks := t1 + 1 }) o1 fun h2 o2 sb => ?_⟩
    have nt : h2.get? s.heap.objs.size = some { cls := .type "tuple", data := .seq #[.int i t1, u] } :=
      (sb.2 _ (Nat.ne_of_gt (sm e (by simp)))).trans new
    have pair : ObjOk X.prog X.w (upd H s.heap.objs.size (.tup [.int (i : Nat), x])) h2 s.heap.objs.size (.tup [.int (i : Nat), x]) :=
      ⟨(by decide : 2 ≤ sizeLine), [.int i t1, u], .cons ⟨_, rfl⟩ (.cons ru' .nil), ⟨_, nt, rfl, _, rfl⟩⟩
    have kp2 : ∀ c o, c ∉ [e, it] → s.heap.get? c = some o → h2.get? c = some o := fun c o nc z => by
      have nn : c ≠ e ∧ c ≠ it := by simpa [not_or] using nc
      exact (sb.2 c nn.1).trans (kp c o nn.1 nn.2 z)
    have J : L2.Inv X pins σ (upd H s.heap.objs.size (.tup [.int (i : Nat), x])) { s with heap := h2, toks := t1 + 1 } :=
      I.turnedNew (t' := t1 + 1) (ch := [e, it]) kp2 hf (Nat.le_refl _) pair
    refine ⟨.ref s.heap.objs.size, _, J, rfl, ⟨_, x, rfl, I.hok.fresh (Nat.le_refl _), rfl, fun l hl => by obtain rfl := I.tuple_inj hl hy; exact hx⟩, ⟨⟨u, by simpa using o2⟩, f1.1.at fun o z => (sb.2 it ne.symm).trans z⟩, fun c hc => (upd_ne (Nat.ne_of_lt (sm c hc))).trans (hf c hc).1⟩
  done := by
    rintro X rfl rfl rfl hc i pins s σ H E I hf q ⟨xs, hy, hx⟩
    obtain ⟨vs, rv, tv, _⟩ := I.tuple hy
    obtain ⟨old, q1⟩ := q.num
    have lv : vs.toArray.size = i := by simpa [hx] using rv.length.symm
    have hd : X.A.in1.handled = none := I.ok.hd hc
    obtain ⟨r0, r1, _, r3, r4, r5⟩ := hf it (by simp)
    exact wpAny_pyNext_enum_endD (Draws.tuple hd it a na vs.toArray) q1 ⟨by rw [lv]; exact q.tup, tv⟩ fun h' eb => ⟨rfl, I.turned (t' := s.toks) (fun b o hb z => eb b o hb z) r0 r1 r3 r4 r5⟩
  self := fun _ _ _ _ _ q h => by obtain ⟨_, q1⟩ := q.num; exact wpAny_pyIter_enum q1 h
def iEnumT (K : PySem.W.Frag) (ta : TA) : TI := fun σ H R => ta σ H fun vs H1 => ∃ a xs, vs = [.ref a] ∧ SqT K H1 a xs ∧ R (IteT K a) H1
theorem pi_enumT {X : Cx} {e : Expr} {ta : TA} {p pos tpos : Pos} {elts : List Expr} {kk : Nat} (hg : Gl X "enumerate") (hm : X.mg "enumerate" = none) (ha : PA X [e] ta) (hs : starEach [e] X.env = [(false, eval e X.env)] := by rfl) :
    PI X (.Tuple elts kk tpos) (.Call (.Name "enumerate" p) [e] [] pos) (iEnumT X.K ta) where
  run pins s σ H R I h := by
    have go := ha.run pos pins s σ H _ I h
    refine Call_ (ld_blt I hg hm boot_enumerate (PyProof.Rows.callWith_type1 (thn go ?_) hs rfl))
    rintro us s1 ⟨vs, H1, J, r1, a, xs, rfl, hy, q⟩
    match us, r1 with
    | [_], .cons rfl .nil =>
      obtain ⟨its, _, tv, _⟩ := J.tuple hy
      obtain ⟨_, ha, _⟩ := id tv
      have la := Heap.lt_size ha
      let n := s1.heap.objs.size
      have up : ∀ c, c ∈ [n + 1, n] → n ≤ c := all2 (by omega) (by omega)
      refine call_enumT (show s1.heap.IsTuple a its.toArray from tv) fun h' q1 q2 kp => wpAny_pyIter_enum q1 ?_
      exact ⟨n + 1, [n + 1, n], _, _, H1, rfl, J.kept (t' := s1.toks) kp, turn_enumT a (n + 1) n (Nat.ne_of_lt la) (Nat.succ_ne_self n) (Nat.ne_of_gt (Nat.lt_succ_of_lt la)), ⟨⟨.none, q1⟩, q2⟩, fun c hc => J.fpOk (up c hc) (J.hok.fresh (up c hc)), q⟩
def kEnT (K : PySem.W.Frag) (R : It → Hp → Prop) : List V → Hp → Prop := fun vs H1 => ∃ a xs, vs = [.ref a] ∧ SqT K H1 a xs ∧ R (IteT K a) H1
theorem w_iEnT {K : PySem.W.Frag} {ta : TA} {σ : L2.St} {H : Hp} {R : It → Hp → Prop} (q : ta σ H (kEnT K R)) : iEnumT K ta σ H R := q
theorem w_forE {K : PySem.W.Frag} {g : TG} {tb : TS} {D : Ends} {σ : L2.St} {H : Hp} {a : Addr} (xs : List V) (Pv : Nat → L2.St → Hp → Prop) (hq : SqT K H a xs) (h0 : Pv 0 σ H) (hl : ∀ i σ H, Pv i σ H → SqT K H a xs)
    (hs : ∀ i x σ H t H1, xs[i]? = some x → Pv i σ H → H t = none → Same H H1 → H1 t = some (.tup [.int (i : Nat), x]) → g (.ref t) σ H1 fun σ2 H2 => tb { D with nx := Pv (i + 1), ct := Pv (i + 1), bk := D.nx } σ2 H2)
    (hd : ∀ σ H, Pv xs.length σ H → D.nx σ H) : kEnT K (kFor g tb D σ) [.ref a] H := by
  refine ⟨a, xs, rfl, hq, fun i m σ H => m = xs.length - i ∧ i ≤ xs.length ∧ Pv i σ H, ⟨xs.length, by simp, Nat.zero_le _, h0⟩, ?_⟩
  rintro i m σ H ⟨rfl, hi, p⟩
  have q := hl i σ H p
  by_cases hlt : i < xs.length
  · refine .inr ⟨⟨xs, xs[i], q, List.getElem?_eq_getElem hlt⟩, Pv (i + 1), fun σ' H' p' => ⟨xs.length - (i + 1), by omega, rfl, hlt, p'⟩, fun v H' y => ?_⟩
    obtain ⟨T, y, rfl, nT, rfl, hy⟩ := y
    exact hs i y σ H T _ (hy xs q) p nT (Same.new nT) upd_same
  · have e : i = xs.length := by omega
    subst e
    exact .inl ⟨⟨xs, q, rfl⟩, hd σ H p⟩
theorem w_catG {K : PySem.W.Frag} {a b : Addr} {xs ys : List V} {H : Hp} {Q : VK} (h1 : SqT K H a xs) (h2 : SqT K H b ys) (hl : xs.length + ys.length ≤ sizeLine) (q : ∀ p H', Same H H' → SqT K H' p (xs ++ ys) → Q (.ref p) H') : rCatA K (.ref a) (.ref b) H Q :=
  ⟨a, b, xs, ys, rfl, rfl, h1, h2, hl, fun e => q b H (fun _ _ e => e) (by rw [e]; exact h2), fun _ e => q a H (fun _ _ e => e) (by rw [e, List.append_nil]; exact h1), fun _ _ p np => q p _ (Same.new np) (.inl (.inl upd_same))⟩
theorem w_slG {K : PySem.W.Frag} {a : Addr} {xs : List V} {lo hi : Option Int} {H : Hp} {Q : VK} (h : SqT K H a xs) (q : ∀ p H', Same H H' → SqT K H' p (cutV xs lo hi) → Q (.ref p) H') : rSlA K (.ref a) lo hi H Q :=
  ⟨a, xs, rfl, h, fun ⟨e1, e2⟩ => q a H (fun _ _ e => e) (by unfold cutV; rw [e1, e2]; simpa using h), fun _ p np => q p _ (Same.new np) (.inl (.inl upd_same))⟩
end Co

set_option Elab.async false
set_option linter.all false
set_option maxRecDepth 100000
set_option maxHeartbeats 4000000
namespace Co
open PySem PySem.Spec PyProof.Rows L2
/-! ### repr of data at any depth, where nothing is being shown -/
/-- d may be shown: no dict, small ints and letters -/
structure Shw (d : PyData) : Prop where
  show_ : d.showable = true
  dict_ : d.hasDict = false
  deep : d.depth ≤ 64
  len : d.shown.length ≤ sizeLine
def rRepr (K : PySem.W.Frag) : List V → Hp → VK → Prop := fun xs H Q => ∃ a d, xs = [.ref a] ∧ Dp K H (.ref a) d ∧ Shw d ∧ Q (.str d.shown) H
theorem call_reprD {X : Cx} (hg : X.A.guards = some []) (hu : X.A.units + 70 < cLine) : CallR X (.builtin "repr") (rRepr X.K) := by
  intro pins s σ H xs us Q I r h
  obtain ⟨a, d, rfl, hd, S, q⟩ := h
  obtain ⟨u, rfl, rx⟩ := vals1 r
  cases rx
  obtain ⟨as, rd⟩ := Dp.reads I d _ _ hd rfl
  refine repr_of_reads' rd S.show_ (fun z => absurd (S.dict_.symm.trans z) (by decide)) hg (by have := S.deep; omega) (fun b o e => e) (fun h' u tk hk => ⟨.str d.shown, H, I.kept (t' := tk) hk, ⟨u, rfl⟩, q⟩) S.len
theorem w_repr {K : PySem.W.Frag} {a : Addr} {d : PyData} {H : Hp} {Q : VK} (h : Dp K H (.ref a) d) (hs : Shw d) (q : Q (.str d.shown) H) : rRepr K [.ref a] H Q := ⟨a, d, rfl, h, hs, q⟩
/-! ### the law's own run: nothing stands below it -/
def RunG (P : Program) (w : World) (K : PySem.W.Frag) (mg : Str → Option Value) (base : Heap) (f : Addr) (fd : FuncData) (x : Str) (sp : Sp) : Prop :=
  ∀ (s : Shared) (H : Hp) (args : Args) (us : List Value) (vs : List V) (Q : VK), Env0 P w K mg base callerA [] s H → BindsTo s fd args ([x].zip us) → Vals vs us → vs.length = 1 → sp vs H Q E0 → codeAny (model P w) callerA (.call (.ref f) args) (CR CX0 [] P w H s Q E0) s
theorem guards_callerA (env : Env) : (callerA.deeper env).guards = some [] := rfl
theorem runG_of {P : Program} {w : World} {K : PySem.W.Frag} {mg : Str → Option Value} {base : Heap} {x qual par : Str} {st : Stmt} {f : Addr} {fd : FuncData} {N : List Str} {k : Nat} {sp : Sp} (F : Fun K x qual st f fd) (S : FnScope N [par] (defScope st)) (hr : Room (k + 1) callerA)
    (hbody : ∀ (cdv : Value) (s : Shared) (H : Hp) (vs : List V) (Q : VK), Room k (callerA.deeper (envOfC qual (defScope st) s.heap.objs.size f cdv)) → sp vs H Q E0 →
      ∃ t, PSs (cxOf CX0 P w K mg base N qual (defScope st) f cdv callerA [] s H E0).nox (defBody st) t ∧ t { nx := fun _ H' => Q .non H', rt := Q } (start N vs) H) : RunG P w K mg base f fd par sp := by
  obtain ⟨oc, od, kV, doc, pm, an, cdv, ct, osl, rfl, lk, hcd⟩ := F.ex
  intro s H args us vs Q e0 hb r hl hsp
  have keep : ∀ b o, base.get? b = some o → s.heap.get? b = some o := fun b o e => (e0.bs b o e).1
  have KX := e0.mod.kin.keeps keep
  have slots : ∀ y ∈ [par].zip us, (defScope st).names.lookup y.1 = some .local ∨ ((defScope st).names.lookup y.1 = some .cell ∧ ((cellsFrom (s.heap.objs.size + 1) (defScope st).names []).lookup y.1).isSome = true) := by
    rintro ⟨n, v⟩ hy
    have m := S.par n (List.of_mem_zip hy).1
    exact m.imp id fun q => ⟨q, PySem.W.cellsFrom_some _ _ _ (.inl q)⟩
  refine codeAny_call_function hr.depth (KX _ _ lk) rfl S.co S.gen rfl (PySem.W.codeRec_of KX hcd) (hb _ _ _ _ (wpAny_newFunctionEnv_cells S.kind slots fun env he s1 inC => ?_))
  cases he
  obtain ⟨t, ht, hq⟩ := hbody cdv s H vs Q (hr.deeper _) hsp
  have I := inv_start (CX := CX0) (E := E0) (cd := cdv) (qual := qual) S hr.hd e0 hl r inC
  refine ⟨(e0.mod.nolimit.keeps keep).keeps inC.toInCall.keep, codeAny_func (wpAny_mono (ht.nox.run [] s1 (start N vs) H _ I hq) (fun fl s' hs => ?_) fun e s' hs => hs)⟩
  match fl, hs with
  | .ret u, ⟨v, σ', H', J, rv, q⟩ => exact ⟨v, H', J.os, J.bare, J.base, J.hok, rv, q⟩
  | .next, ⟨σ', H', J, q⟩ => exact ⟨V.non, H', J.os, J.bare, J.base, J.hok, rfl, q⟩
  | .brk, ⟨_, _, _, q⟩ => exact False.elim q
  | .cont, ⟨_, _, _, q⟩ => exact False.elim q
/-- how the law's call ends -/
def Ended (s1 : Shared) : Result → Shared → Prop := fun r s' => r = .ok (.ret (.bool true)) ∧ OldK s1.heap s'.heap ∧ s'.os = s1.os ∧ AllBare s'.gens
section
variable {P : Program} {w : World} {K : PySem.W.Frag} {mg mb : Str → Option Value} {fa a : Addr} {fd : FuncData} {x : Str} {sp : Sp} {s1 : Shared} {vs : List Value} {ns : List Int}
/-- from a heap that tracks the script at most -/
theorem call_from (KX : K.In s1.heap) (hns : s1.heap.Ns mainGlobals mg) (hb : s1.heap.Ns builtinsNs mb) (hbb : ∀ y : Str, y ≠ "__name__" → mb y = bootBuiltins y) (hlim : s1.heap.NoLimit) (hg : s1.gens = #[])
    (ha : ∃ xs n, (s1.heap.get? a).map (·.data) = some (.seq xs n)) (F : ∀ base : Heap, K.In base → base.Ns mainGlobals mg → RunG P w K mg base fa fd x sp) (hbind : ∀ (s : Shared) (u : Value), BindsTo s fd ⟨[u], []⟩ [(x, u)])
    {H : Hp} (hO : Only H) (hok : HOk P w H s1.heap) (hA : ∀ b, b ≠ a → H b = none) (hK : H a = none ∨ K.lookup a = none) (hsp : sp [.ref a] H (fun v _ => v = .bl true) E0) :
    codeAny (model P w) callerA (.call (.ref fa) ⟨[.ref a], []⟩) (Ended s1) s1 := by
  have out : ∀ {b : Addr} {o : Obj} {es : Array DictEntry} {ep : Nat}, s1.heap.get? b = some o → o.data = .dict es ep → H b = none := by
    intro b o es ep e d
    by_cases z : b = a
    · subst z
      obtain ⟨xs, n, q⟩ := ha
      rw [e, Option.map_some, d] at q
      cases q
    · exact hA b z
  have nsT : ∀ {b : Addr} {m : Str → Option Value}, s1.heap.Ns b m → (hidT s1.heap H).Ns b m := by
    rintro b m ⟨o, es, ep, e, d, r⟩
    exact ⟨o, es, ep, hidT_get e (out e d), d, r⟩
  have KT : K.In (hidT s1.heap H) := by
    intro b o e
    refine hidT_get (KX b o e) ?_
    by_cases z : b = a
    · subst z
      exact hK.resolve_right fun q => by rw [q] at e; cases e
    · exact hA b z
  obtain ⟨mc, l1, l2⟩ := hlim
  have M : Mod K mg (hidT s1.heap H) := ⟨KT, nsT hns, ⟨mb, nsT hb, hbb⟩, mc, nsT l1, l2⟩
  have e0 : Env0 P w K mg (hidT s1.heap H) callerA [] s1 H := { frames := rfl, mod := M, bs := fun b o e => of_hidT e, bsz := Nat.le_of_eq (hidT_size _ _), funs := trivial, frf := fun b z => absurd (show b ∈ ([] : List Addr) from z) (by simp), hok := hok, bare := .of_eq hg }
  refine codeAny_mono (F _ KT (nsT hns) s1 H _ [.ref a] [.ref a] _ e0 (hbind s1 _) (.cons rfl .nil) rfl hsp) ?_
  rintro (e | fl) s' h
  · exact h.elim
  · match fl, h with
    | .ret u, ⟨v, H', os, bare, un, hok', r', q⟩ =>
      cases (show v = .bl true from q)
      cases (show u = Value.bool true from r')
      refine ⟨rfl, OldK.of_keep fun b o e => ?_, os, bare⟩
      rcases hO b with z | ⟨ob, xs, z⟩
      · exact un.keep b o e z (fun m => nomatch m) (fun m => nomatch m)
      · have e1 := (hok b _ z).1
        have e2 := (hok' b _ (un.frzs b ob _ z)).1
        cases e.symm.trans e1
        exact e2
theorem law_callG (KX : K.In s1.heap) (hns : s1.heap.Ns mainGlobals mg) (hb : s1.heap.Ns builtinsNs mb) (hbb : ∀ y : Str, y ≠ "__name__" → mb y = bootBuiltins y) (hlim : s1.heap.NoLimit) (hg : s1.gens = #[])
    (ha : s1.heap.get? a = some { cls := .type "list", data := .seq vs.toArray }) (hi : IntsAre vs ns) (hl : ns.length ≤ sizeLine) (F : ∀ base : Heap, K.In base → base.Ns mainGlobals mg → RunG P w K mg base fa fd x sp) (hbind : ∀ (s : Shared) (u : Value), BindsTo s fd ⟨[u], []⟩ [(x, u)])
    (hsp : ∀ H : Hp, Only H → SqL K H a (ns.map V.int) → sp [.ref a] H (fun v _ => v = .bl true) E0) : codeAny (model P w) callerA (.call (.ref fa) ⟨[.ref a], []⟩) (Ended s1) s1 := by
  have rv := vals_ints hi
  have hl' : vs.toArray.size ≤ sizeLine := by rw [List.size_toArray, hi.length]; exact hl
  have haq : ∃ xs n, (s1.heap.get? a).map (·.data) = some (.seq xs n) := ⟨_, _, by rw [ha]; rfl⟩
  cases hk : K.lookup a with
  | some o =>
    have e := (KX a o hk).symm.trans ha
    cases e
    have O : Only fun _ => none := fun _ => .inl rfl
    exact call_from KX hns hb hbb hlim hg haq F hbind O (fun b u z => by cases z) (fun _ _ => rfl) (.inl rfl) (hsp _ O (.inr ⟨_, vs.toArray, _, hk, rfl, rfl, rfl, hl', by simpa using rv⟩))
  | none =>
    let fz : HO := .frz { cls := .type "list", data := .seq vs.toArray } (.lst (ns.map V.int))
    have at_a : ∀ {b : Addr} {u : HO}, (if b = a then some fz else none) = some u → b = a ∧ u = fz := by
      intro b u z
      by_cases q : b = a
      · rw [if_pos q] at z; exact ⟨q, (Option.some.inj z).symm⟩
      · rw [if_neg q] at z; cases z
    have O : Only fun b => if b = a then some fz else none := fun b => by
      by_cases q : b = a
      · exact .inr ⟨_, _, if_pos q⟩
      · exact .inl (if_neg q)
    refine call_from KX hns hb hbb hlim hg haq F hbind O (fun b u z => ?_) (fun b q => if_neg q) (.inr hk) (hsp _ O (.inl (.inr ⟨_, if_pos rfl⟩)))
    obtain ⟨rfl, rfl⟩ := at_a z
    exact ⟨ha, by rw [List.length_map]; exact hl, vs, _, rv, ha⟩
end
/-- the goal that k_head leaves, from the law's run -/
theorem walk_ofG {l : PySem.W.OpenLaw} {n : Nat} {q : Program} {loose : List Str} {XP : (Str → Option Value) → Heap → Prop} {YP : World → Heap → Prop} {d : DefRec} {K : Params → PySem.W.Frag} {sp : World → Sp} {x : Str}
    (hn : l.most = some n) (hn2 : n ≤ sizeLine) (hdf : d.params.defaults = []) (hY : ∀ (w : World) (h : Heap), YP w h → (K w.params).In h)
    (F : ∀ (w : World) (mg : Str → Option Value) (fa : Addr) (h : Heap), (K w.params).In h → h.Ns mainGlobals mg → mg d.name = some (.ref fa) →
      ∃ fd : FuncData, (∀ (s : Shared) (u : Value), BindsTo s fd ⟨[u], []⟩ [(x, u)]) ∧ ∀ base : Heap, (K w.params).In base → base.Ns mainGlobals mg → RunG l.prog w (K w.params) mg base fa fd x (sp w))
    (hsp : ∀ (w : World) (H : Hp) (a : Addr) (ns : List Int), ns.length ≤ n → Only H → SqL (K w.params) H a (ns.map V.int) → sp w [.ref a] H (fun v _ => v = .bl true) E0) :
    PySem.W.WalkO q loose XP YP l.row.toRowW d [] (fun f vs => PySem.call f vs) := by
  refine Att.attach_call hn hdf fun w _ s1 mg mb fa o pm cd doc a vs ns G Y _ _ _ hmg hobj hints hlen hg => ?_
  have KX := hY w _ Y
  obtain ⟨fd, hb, hF⟩ := F w mg fa _ KX G.T.g hmg
  exact law_callG KX G.T.g G.T.b G.T.builtins G.T.nolimit hg hobj hints (Nat.le_trans hlen hn2) hF hb fun H hO hS => hsp w H a ns hlen hO hS
end Co
namespace Co
open PySem PySem.Spec PyProof.Rows L2
section
variable {X : Cx} {K' : PySem.W.Frag}
theorem call_tupQK (hK : X.K = K') : CallR X (.type "tuple") (rTupQ K') := by subst hK; exact call_tupQ
theorem call_listQK (hK : X.K = K') : CallR X (.type "list") (rListQ K') := by subst hK; exact call_listQ
end
theorem hu70 {A : Around} {k : Nat} (hr : Room k A) : A.units + 70 < cLine := by have := hr.un; omega
end Co
namespace Co
open PySem PySem.Spec PyProof.Rows L2
/-! ### data of rows of ints -/
theorem lay_ints : ∀ xs : List Int, PyData.canLayAll0 (xs.map .int) = true ∧ PyData.depthAll (xs.map .int) = 0
  | [] => by simp [PyData.canLayAll0, PyData.depthAll]
  | x :: r => by
    have := lay_ints r
    simp [PyData.canLayAll0, PyData.depthAll, PyData.canLay0, PyData.depth, this.1, this.2]
theorem dpInts {K : PySem.W.Frag} {H : Hp} : ∀ xs : List Int, DpAll K H (xs.map V.int) (xs.map .int)
  | [] => .nil
  | x :: r => .cons (.int x) (dpInts r)
def rowD (bs : List Int) : PyData := .tuple (bs.map .int)
def rowsD (B : List (List Int)) : PyData := .tuple (B.map rowD)
theorem dpRow {K : PySem.W.Frag} {H : Hp} {a : Addr} {bs : List Int} (h : SqT K H a (bs.map V.int)) : Dp K H (.ref a) (rowD bs) := .tup h (dpInts bs)
theorem dpAllRows {K : PySem.W.Frag} {H : Hp} : ∀ (as : List V) (B : List (List Int)), as.length = B.length → (∀ (j : Nat) (v : V) (bs : List Int), as[j]? = some v → B[j]? = some bs → ∃ a, v = V.ref a ∧ SqT K H a (bs.map V.int)) → DpAll K H as (B.map rowD)
  | [], [], _, _ => .nil
  | [], _ :: _, e, _ => by cases e
  | _ :: _, [], e, _ => by cases e
  | v :: as, bs :: B, e, h => by
    obtain ⟨a, rfl, q⟩ := h 0 v bs rfl rfl
    exact .cons (dpRow q) (dpAllRows as B (Nat.succ.inj e) fun j v' bs' h1 h2 => h (j + 1) v' bs' h1 h2)
theorem lay_rows : ∀ B : List (List Int), PyData.canLayAll0 (B.map rowD) = true ∧ PyData.depthAll (B.map rowD) ≤ 1
  | [] => by simp [PyData.canLayAll0, PyData.depthAll]
  | x :: r => by
    obtain ⟨h1, h2⟩ := lay_rows r
    obtain ⟨l1, l2⟩ := lay_ints x
    constructor
    · simp only [List.map_cons, PyData.canLayAll0, rowD, PyData.canLay0, l1, Bool.true_and]
      exact h1
    · simp only [List.map_cons, PyData.depthAll, rowD, PyData.depth, l2]
      have : PyData.depthAll (List.map (fun bs => PyData.tuple (List.map PyData.int bs)) r) ≤ 1 := h2
      omega
theorem rows_shaped (B : List (List Int)) : SeqAt.shaped (rowsD B) = true := by
  have l := lay_rows B
  simp only [SeqAt.shaped, rowsD, PyData.canLay0, PyData.depth, l.1, Bool.true_and, decide_eq_true_eq]
  omega
end Co

set_option Elab.async false
set_option linter.all false
set_option maxRecDepth 100000
set_option maxHeartbeats 4000000
namespace Co
open PySem PySem.Spec PyProof.Rows L2
/-! ### data small enough to be shown and compared -/
structure SmD (n k : Nat) (d : PyData) : Prop where
  lay : d.canLay0 = true
  sh : d.intsShort 13 = true
  shw : d.showable = true
  w : d.weight + 1 ≤ n
  dp : d.depth ≤ k
structure SmAll (n k : Nat) (ds : List PyData) : Prop where
  lay : PyData.canLayAll0 ds = true
  sh : PyData.intsShortAll 13 ds = true
  shw : PyData.showableAll ds = true
  w : PyData.weightAll ds ≤ n
  dp : PyData.depthAll ds ≤ k
theorem SmD.shaped {n k : Nat} {d : PyData} (h : SmD n k d) (hk : k ≤ 64) : SeqAt.shaped d = true := by
  have := h.dp
  unfold SeqAt.shaped
  rw [h.lay, Bool.true_and, decide_eq_true_eq]
  omega
theorem SmD.shown {n k : Nat} {d : PyData} (h : SmD n k d) (hk : k ≤ 64) (hn : n ≤ 1048577) : Shw d := by
  have := h.dp
  have hw := h.w
  exact ⟨h.shw, PyData.hasDict_of_canLay d h.lay, by omega, PyData.shown_fits (B := 13) (by decide) (by decide) (PyData.leavesShort_of_canLay0 13 d h.lay h.sh) (by rw [show (2 : Nat) ^ 20 = 1048576 from rfl]; omega)⟩
theorem SmAll.nil {k : Nat} : SmAll 0 k [] := ⟨by simp [PyData.canLayAll0], by simp [PyData.intsShortAll], by simp [PyData.showableAll], by simp [PyData.weightAll], by simp [PyData.depthAll]⟩
theorem SmAll.cons {n m k : Nat} {d : PyData} {ds : List PyData} (h : SmD n k d) (hs : SmAll m k ds) : SmAll (n + m) k (d :: ds) := by
  have h1 := h.w; have h2 := hs.w; have h3 := h.dp; have h4 := hs.dp
  refine ⟨by simp [PyData.canLayAll0, h.lay, hs.lay], by simp [PyData.intsShortAll, h.sh, hs.sh], by simp [PyData.showableAll, h.shw, hs.shw], ?_, ?_⟩
  · simp only [PyData.weightAll]; omega
  · simp only [PyData.depthAll]; omega
theorem SmAll.tup {n k : Nat} {ds : List PyData} (h : SmAll n k ds) : SmD (n + 1) (k + 1) (.tuple ds) := by
  have h2 := h.w; have h4 := h.dp
  exact ⟨by simpa [PyData.canLay0] using h.lay, by simpa [PyData.intsShort] using h.sh, by simpa [PyData.showable] using h.shw, by simp only [PyData.weight]; omega, by simp only [PyData.depth]; omega⟩
theorem SmAll.lst {n k : Nat} {ds : List PyData} (h : SmAll n k ds) : SmD (n + 1) (k + 1) (.list ds) := by
  have h2 := h.w; have h4 := h.dp
  exact ⟨by simpa [PyData.canLay0] using h.lay, by simpa [PyData.intsShort] using h.sh, by simpa [PyData.showable] using h.shw, by simp only [PyData.weight]; omega, by simp only [PyData.depth]; omega⟩
theorem SmD.int {k : Nat} {i : Int} (h : i.natAbs < 1000000000000) : SmD 41 k (.int i) := by
  have hl : i.natAbs ≠ 0 → i.natAbs.log2 < 40 := fun z => (Nat.log2_lt z).2 (Nat.lt_trans h (by decide))
  refine ⟨by simp [PyData.canLay0], ?_, ?_, ?_, by simp [PyData.depth]⟩
  · simp only [PyData.intsShort, decide_eq_true_eq]; exact PyData.shown_int_le h
  · simp only [PyData.showable, decide_eq_true_eq]
    by_cases z : i.natAbs = 0
    · rw [z]; decide
    · exact Nat.lt_trans (hl z) (by decide)
  · simp only [PyData.weight]
    split
    · omega
    · rename_i z
      have := hl (by intro q; apply z; simp; omega)
      omega
theorem SmD.bool {k : Nat} (b : Bool) : SmD 1 k (.bool b) := ⟨by simp [PyData.canLay0], by simp [PyData.intsShort], by simp [PyData.showable], by simp [PyData.weight], by simp [PyData.depth]⟩
theorem SmD.non {k : Nat} : SmD 1 k .none := ⟨by simp [PyData.canLay0], by simp [PyData.intsShort], by simp [PyData.showable], by simp [PyData.weight], by simp [PyData.depth]⟩
theorem SmD.str {k m : Nat} {x : Str} (h : PyData.strOk x = true) (hm : x.cps.size ≤ m) : SmD (m + 1) k (.str x) := ⟨by simpa [PyData.canLay0] using h, by simp [PyData.intsShort], by simp [PyData.showable], by simp only [PyData.weight]; omega, by simp [PyData.depth]⟩
theorem SmD.mono {n k n' k' : Nat} {d : PyData} (h : SmD n k d) (hn : n ≤ n') (hk : k ≤ k') : SmD n' k' d := ⟨h.lay, h.sh, h.shw, Nat.le_trans h.w hn, Nat.le_trans h.dp hk⟩
theorem SmAll.mono {n k n' k' : Nat} {ds : List PyData} (h : SmAll n k ds) (hn : n ≤ n') (hk : k ≤ k') : SmAll n' k' ds := ⟨h.lay, h.sh, h.shw, Nat.le_trans h.w hn, Nat.le_trans h.dp hk⟩
theorem SmAll.all {n k : Nat} : ∀ {ds : List PyData}, (∀ d ∈ ds, SmD n k d) → SmAll (n * ds.length) k ds
  | [], _ => SmAll.nil
  | d :: ds, h => ((SmAll.cons (h d (by simp)) (SmAll.all fun e he => h e (by simp [he])))).mono (by rw [List.length_cons, Nat.mul_add]; omega) (Nat.le_refl _)
theorem SmAll.ints {k : Nat} {xs : List Int} (h : ∀ x ∈ xs, x.natAbs < 1000000000000) : SmAll (41 * xs.length) k (xs.map .int) := by
  have := SmAll.all (n := 41) (k := k) (ds := xs.map .int) fun d hd => by
    obtain ⟨x, hx, rfl⟩ := List.mem_map.mp hd
    exact SmD.int (h x hx)
  rw [List.length_map] at this
  exact this
theorem SmD.row {k : Nat} {xs : List Int} (h : ∀ x ∈ xs, x.natAbs < 1000000000000) : SmD (41 * xs.length + 1) (k + 1) (rowD xs) := (SmAll.ints h).tup
end Co

set_option Elab.async false
set_option linter.all false
set_option maxRecDepth 100000
set_option maxHeartbeats 4000000
namespace Co
open PySem PySem.Spec PyProof.Rows L2
/-! ### set(l) of a list (and of a tuple) of ints -/
abbrev nset (w : World) : Obj := { cls := .type "set", dict := none, data := .set #[] 0 (.fresh 0 0 (!w.params.followText "set-order")) }
abbrev lstIt (l : Addr) : Obj := { cls := .type "list_iterator", data := .fields #[.ref l, .int 0 0] }
section
variable {P : Program} {w : World} {A : Around} {E : Value → Shared → Prop} {s : Shared}
theorem pushS {h : Heap} {o : Obj} : (h.push o).objs.size = h.objs.size + 1 := Heap.size_push ..
set_option maxHeartbeats 3200000 in
theorem call_set_listI {l : Addr} {its : Array Value} (ns : List Int) {Q : Value → Shared → Prop} (hh : A.handled = none) (hl : s.heap.IsList l its) (hit : IntsAre its.toList ns) (hb : ns.length + 1 < scanBound)
    (k : ∀ (h2 : Heap) (tk c : Nat), SetR w h2 s.heap.objs.size (fun j => decide (j ∈ ns)) c → c ≤ ns.length → (∀ b o, s.heap.get? b = some o → h2.get? b = some o) → Q (.ref s.heap.objs.size) { s with heap := h2, toks := tk }) :
    wpAny (model P w) A (call (.type "set") [.ref l]) Q E s := by
  have sz : its.size = ns.length := by have q := IntsAre.length hit; rw [Array.length_toList] at q; exact q
  obtain ⟨c, tl, hmro⟩ := F.called_set.mro
  have m1 := F.called_set.made; have m2 := F.called_set.sub
  refine wpAny_call (codeAny_of_tree ?_); show wpAny _ _ (callAny (.type "set") _) _ _ _
  refine wpAny_pure ⟨Code.quiet_builtin _ (by decide +kernel), codeAny_builtin F.entry_type_call ?_⟩; rw [Around.under_plain (weight_type_call_type "set" [.ref l] []) rfl]
  have h1 := F.called_set.notType; have h2 := F.called_set.canCreate; have h3 := F.typeCall_set_1 (.ref l)
  repeat (any_goals (first | assumption | wp_step))
  refine codeAny_mono (code_set_led1 (.ref l) (E := E) (Q₁ := fun ob s1 => ob = .ref s.heap.objs.size ∧ s1 = { s with heap := s.heap.push (nset w) }) ⟨rfl, rfl⟩) fun r s1 hr => ?_
  match r, hr with
  | .error e, hr => exact hr
  | .ok .next, hr => exact hr.elim
  | .ok .brk, hr => exact hr.elim
  | .ok .cont, hr => exact hr.elim
  | .ok (.ret ob), hr =>
    obtain ⟨rfl, rfl⟩ := hr
    have gS : (s.heap.push (nset w)).get? s.heap.objs.size = some (nset w) := Heap.get?_push_size _ rfl
    have tS : Shared.TypeIs { s with heap := s.heap.push (nset w) } (.ref s.heap.objs.size) "set" := ⟨_, gS, rfl⟩
    have i1 := F.called_set.init.lookup; have i2 := F.called_set.init.bind (.ref s.heap.objs.size)
    repeat (any_goals (first | assumption | wp_step))
    refine codeAny_mono (codeAny_call_builtin (R := wants (fun r s2 => r = .none ∧ ∃ h2 tk c, s2 = { s with heap := h2, toks := tk } ∧ SetR w h2 s.heap.objs.size (fun j => decide (j ∈ ns)) c ∧ c ≤ ns.length ∧ ∀ b o, s.heap.get? b = some o → h2.get? b = some o) E) F.called_set.init.plain F.entry_set_init (check_set_init_1 tS ?_)) fun r2 s2 hr2 => ?_
    · obtain ⟨⟨oc, odi, oda, osl⟩, gl, cl, nl, dl⟩ := hl
      dsimp only at cl dl; subst cl; subst dl
      have gl' : (s.heap.push (nset w)).get? l = some ⟨.type "list", odi, .seq its nl, osl⟩ := Heap.get?_push_of_some _ gl
      have q1 := F.sub_list_set; have q2 := F.sub_list_frozenset; have q3 : (Value.type "list" == Value.type "dict") = false := by decide
      have hl1 : (s.heap.push (nset w)).IsList l its := ⟨_, gl', rfl, nl, rfl⟩
      unfold Builtin.«set.__init__» noKeywords Builtin.Frozenset.updateFrom
      generalize hPI : pyIter = PI
      wp_walk
      subst hPI
      refine wpAny_pyIter_list hl1 (wpAny_bind (wpAny_runValue ?_))
      have lS : l < s.heap.objs.size := Heap.lt_size gl
      have nI : l ≠ (s.heap.push (nset w)).objs.size := by rw [pushS]; exact Nat.ne_of_lt (Nat.lt_succ_of_lt lS)
      have nS : s.heap.objs.size ∉ [(s.heap.push (nset w)).objs.size, l] := by
        rw [pushS]; simp only [List.mem_cons, List.not_mem_nil, or_false, not_or]
        exact ⟨Nat.ne_of_lt (Nat.lt_succ_self _), Nat.ne_of_gt lS⟩
      have vals : ∀ (i : Nat) (v : Value), its[i]? = some v → ∃ k t, ns[i]? = some k ∧ v = .int k t := by
        intro i v hv
        have hi : i < ns.length := by rw [← sz]; exact (Array.getElem?_eq_some_iff.mp hv).1
        obtain ⟨t, e⟩ := PyProof.Rows.IntsAre.int_at hit i v (by rw [Array.getElem?_toList]; exact hv)
        rw [List.getD_eq_getElem?_getD, List.getElem?_eq_getElem hi] at e
        exact ⟨ns[i], t, List.getElem?_eq_getElem hi, e⟩
      have gS2 : ((s.heap.push (nset w)).push (lstIt l)).get? s.heap.objs.size = some (nset w) := Heap.get?_push_of_some _ gS
      refine set_update_ints ((Walks.list (A := A.in1.in1.in1) (by simp [hh]) _ l nI its).toS) s.heap.objs.size nS ns sz hb vals (its.size - 0) 0 _ (by omega) (Nat.zero_le _) ⟨⟨_, Heap.get?_push_size _ rfl, rfl, rfl⟩, hl1.push _⟩ ⟨0, Nat.le_refl 0, setR_new_at gS2⟩ ?_
      rintro ⟨h2, g2, d2, t2, o2⟩ c' hm hc' hS'
      cases (show g2 = s.gens from hm.gens); cases (show d2 = s.drawn from hm.drawn); cases (show o2 = s.os from hm.os)
      rw [sz] at hc'
      show wpAny _ _ _ _ _ _
      refine wpAny_pure ?_
      show wpAny _ _ (ret Value.none) _ _ _
      refine wpAny_pure ⟨rfl, h2, t2, c', rfl, hS', hc', fun b o e => ?_⟩
      have b0 : b < s.heap.objs.size := Heap.lt_size e
      refine hm.heap b o ?_ (Heap.get?_push_of_some _ (Heap.get?_push_of_some _ e))
      rw [pushS]; simp only [List.mem_cons, List.not_mem_nil, or_false, not_or]
      exact ⟨Nat.ne_of_lt b0, Nat.ne_of_lt (Nat.lt_succ_of_lt b0)⟩
    · match r2, hr2 with
      | .error e, hr2 => exact hr2
      | .ok .next, hr2 => exact hr2.elim
      | .ok .brk, hr2 => exact hr2.elim
      | .ok .cont, hr2 => exact hr2.elim
      | .ok (.ret r), hr2 =>
        obtain ⟨rfl, h3, tk, c', rfl, hS', hc', hk'⟩ := hr2
        repeat (any_goals (first | assumption | wp_step))
        exact k _ _ _ hS' hc' hk'
end
end Co

set_option Elab.async false
set_option linter.all false
set_option maxRecDepth 100000
set_option maxHeartbeats 4000000
namespace Co
open PySem PySem.Spec PyProof.Rows L2
def rSetS (w : World) (K : PySem.W.Frag) : List V → Hp → VK → Prop := fun xs H Q => ∃ (p : Addr) (ns : List Int), xs = [.ref p] ∧ (SqL K H p (ns.map V.int) ∨ SqT K H p (ns.map V.int)) ∧ ns.length ≤ 1000 ∧ ∀ D c, H D = none → c ≤ ns.length → Q (.ref D) (upd H D (SetO w D (fun j => decide (j ∈ ns)) c))
theorem intsOf : ∀ {ns : List Int} {us : List Value}, Vals (ns.map V.int) us → IntsAre us ns
  | [], _, h => by cases h; exact .nil
  | n :: ns, _, h => by
    cases h with
    | cons r rr => obtain ⟨t, rfl⟩ := r; exact .cons n t (intsOf rr)
theorem cr_setS {X : Cx} (hc : X.calm = true) : CallR X (.type "set") (rSetS X.w X.K) := by
  intro pins s σ H xs us Q I r h
  obtain ⟨p, ns, rfl, hq, hl, q⟩ := h
  obtain ⟨u, rfl, rx⟩ := vals1 r
  cases rx
  have hb : ns.length + 1 < scanBound := Nat.lt_of_le_of_lt (Nat.succ_le_succ hl) (by decide)
  have hn : H s.heap.objs.size = none := I.hok.fresh (Nat.le_refl _)
  have fin : ∀ (h2 : Heap) (tk c : Nat), SetR X.w h2 s.heap.objs.size (fun j => decide (j ∈ ns)) c → c ≤ ns.length → (∀ b o, s.heap.get? b = some o → h2.get? b = some o) → EP X pins σ Q (.ref s.heap.objs.size) { s with heap := h2, toks := tk } :=
    fun h2 tk c R hle kp => ⟨.ref s.heap.objs.size, _, I.laid (t' := tk) kp (Nat.le_refl _) (setO_new R), rfl, q _ c hn hle⟩
  rcases hq with hq | hq
  · obtain ⟨its, rv, pl, _⟩ := I.list hq
    exact call_set_listI ns (I.ok.hd hc) pl.isList (by simpa using intsOf rv) hb fin
  · obtain ⟨its, rv, pt, _⟩ := I.tuple hq
    exact call_set_tupI ns (I.ok.hd hc) pt (by simpa using intsOf rv) hb fin
theorem w_setS {w : World} {K : PySem.W.Frag} {p : Addr} {ns : List Int} {H : Hp} {Q : VK} (h : SqL K H p (ns.map V.int) ∨ SqT K H p (ns.map V.int)) (hl : ns.length ≤ 1000) (q : ∀ D c H', H D = none → c ≤ ns.length → Same H H' → H' D = some (SetO w D (fun j => decide (j ∈ ns)) c) → Q (.ref D) H') : rSetS w K [.ref p] H Q :=
  ⟨p, ns, rfl, h, hl, fun D c nD hc => q D c _ nD hc (Same.new nD) upd_same⟩
/-- sorted(set(..)) of at most 63 ints: the ascending row -/
theorem w_sortedOf {w : World} {D : Addr} {ns : List Int} {c : Nat} {H : Hp} {Q : VK} (h : H D = some (SetO w D (fun j => decide (j ∈ ns)) c)) (hc : c < 64) (q : ∀ (ms : List Int) (p : Addr) H', ms.Pairwise (· < ·) → (∀ k : Int, k ∈ ms ↔ k ∈ ns) → H p = none → Same H H' → H' p = some (.lst (ms.map V.int)) → Q (.ref p) H') : rSortedSet w [.ref D] H Q :=
  w_sortedSet h hc fun ms p H' h1 h2 _ h4 h5 h6 => q ms p H' h1 (fun k => (h2 k).trans decide_eq_true_iff) h4 h5 h6
end Co

set_option Elab.async false
set_option linter.all false
set_option maxRecDepth 100000
set_option maxHeartbeats 4000000
namespace Co
open PySem PySem.Spec PyProof.Rows L2 PySem.W
/-! ### min(t), max(t) of a tuple of ints -/
def rEndT (f : Int → Int → Int) (K : PySem.W.Frag) : List V → Hp → VK → Prop := fun xs H Q => ∃ (p : Addr) (n : Int) (ns : List Int), xs = [.ref p] ∧ SqT K H p ((n :: ns).map V.int) ∧ Q (.int (ns.foldl f n)) H
theorem alikeInts : ∀ ns : List Int, AlikeAll (ns.map PyData.int) := fun ns => ⟨fun x hx y hy => by
  obtain ⟨a, _, rfl⟩ := List.mem_map.mp hx
  obtain ⟨b, _, rfl⟩ := List.mem_map.mp hy
  rfl, fun x hx => by obtain ⟨a, _, rfl⟩ := List.mem_map.mp hx; simp⟩
theorem readInt {h : Heap} {v : Value} {n : Int} {bs : List Addr} (r : Reads h v (.int n) bs) : RelV (.int n) v := by cases r; exact ⟨_, rfl⟩
theorem cr_minT {X : Cx} (hc : X.calm = true) (hu : X.A.units + 70 < cLine) : CallR X (.builtin "min") (rEndT min X.K) := by
  intro pins s σ H xs us Q I r h
  obtain ⟨p, n, ns, rfl, hq, q⟩ := h
  obtain ⟨u, rfl, rx⟩ := vals1 r
  cases rx
  obtain ⟨its, rv, pt, _⟩ := I.tuple hq
  have hi := intsOf rv
  have dp := (lay_ints (n :: ns)).2
  refine min_tuple_data (x := .int n) (xs := ns.map .int) (as := []) (I.ok.hd hc) pt (by simpa using hi.reads s.heap) (alikeInts (n :: ns)) (by rw [List.map_cons] at dp; omega) fun i v h' tk bs _ hr hk => ?_
  rw [minD_ints] at hr
  exact ⟨.int _, H, I.kept (t' := tk) hk, readInt hr, q⟩
theorem cr_maxT {X : Cx} (hc : X.calm = true) (hu : X.A.units + 70 < cLine) : CallR X (.builtin "max") (rEndT max X.K) := by
  intro pins s σ H xs us Q I r h
  obtain ⟨p, n, ns, rfl, hq, q⟩ := h
  obtain ⟨u, rfl, rx⟩ := vals1 r
  cases rx
  obtain ⟨its, rv, pt, _⟩ := I.tuple hq
  have hi := intsOf rv
  have dp := (lay_ints (n :: ns)).2
  refine max_tuple_data (x := .int n) (xs := ns.map .int) (as := []) (I.ok.hd hc) pt (by simpa using hi.reads s.heap) (alikeInts (n :: ns)) (by rw [List.map_cons] at dp; omega) fun i v h' tk bs _ hr hk => ?_
  rw [maxD_ints] at hr
  exact ⟨.int _, H, I.kept (t' := tk) hk, readInt hr, q⟩
/-! ### more steps -/
theorem w_inT {K : PySem.W.Frag} {x : V} {p : Addr} {xs : List V} {H : Hp} {Q : VK} {b : Bool} (h : SqT K H p xs) (hx : flatV x = true) (ha : xs.all flatV = true) (hb : inV x xs = b) (q : Q (.bl b) H) : rIn K false x (.ref p) H Q := ⟨p, xs, rfl, .inr h, hx, ha, by rw [hb]; exact q⟩
theorem flat_ints (xs : List Int) : (xs.map V.int).all flatV = true := by
  rw [List.all_eq_true]
  intro v hv
  obtain ⟨s, _, rfl⟩ := List.mem_map.mp hv
  rfl
theorem inV_ints (k : Int) (xs : List Int) : inV (.int k) (xs.map V.int) = decide (k ∈ xs) := by
  induction xs with
  | nil => rfl
  | cons x r ih =>
    have e : inV (.int k) ((x :: r).map V.int) = ((x == k) || inV (.int k) (r.map V.int)) := rfl
    rw [e, ih, Bool.eq_iff_iff]
    simp only [Bool.or_eq_true, beq_iff_eq, decide_eq_true_eq, List.mem_cons]
    constructor
    · rintro (h | h)
      · exact .inl h.symm
      · exact .inr h
    · rintro (h | h)
      · exact .inl h.symm
      · exact .inr h
theorem w_inTi {K : PySem.W.Frag} {k : Int} {p : Addr} {ns : List Int} {H : Hp} {Q : VK} (h : SqT K H p (ns.map V.int)) (q : Q (.bl (decide (k ∈ ns))) H) : rIn K false (.int k) (.ref p) H Q := w_inT h rfl (flat_ints ns) (inV_ints k ns) q
theorem eqvInts : ∀ xs ys : List Int, PyData.eqvAll (xs.map .int) (ys.map .int) = decide (xs = ys)
  | [], [] => by simp [PyData.eqvAll]
  | [], y :: ys => by simp [PyData.eqvAll]
  | x :: xs, [] => by simp [PyData.eqvAll]
  | x :: xs, y :: ys => by
    rw [List.map_cons, List.map_cons, PyData.eqvAll, eqvInts xs ys, PyData.eqv, Bool.eq_iff_iff]
    simp
/-- == and != of what need not be equal -/
theorem w_eqE {K : PySem.W.Frag} {x y : V} {d e : PyData} {b : Bool} {H : Hp} {Q : VK} (h1 : Dp K H x d) (h2 : Dp K H y e) (s1 : SeqAt.shaped d = true) (s2 : SeqAt.shaped e = true) (hb : PyData.eqv d e = b) (q : Q (.bl b) H) : rEqD K x y H Q := ⟨d, e, h1, h2, s1, s2, by rw [hb]; exact q⟩
theorem w_neE {K : PySem.W.Frag} {x y : V} {d e : PyData} {b : Bool} {H : Hp} {Q : VK} (h1 : Dp K H x d) (h2 : Dp K H y e) (s1 : SeqAt.shaped d = true) (s2 : SeqAt.shaped e = true) (hb : PyData.eqv d e = b) (q : Q (.bl (!b)) H) : rNeD K x y H Q := ⟨d, e, h1, h2, s1, s2, by rw [hb]; exact q⟩
theorem w_allB {K : PySem.W.Frag} {a : Addr} {bs : List Bool} {H : Hp} {Q : VK} (h : H a = some (.lst (bs.map V.bl))) (q : Q (.bl (bs.all id)) H) : rAll K [.ref a] H Q := ⟨a, bs, rfl, .of h, q⟩
theorem w_anyB {K : PySem.W.Frag} {a : Addr} {bs : List Bool} {H : Hp} {Q : VK} (h : H a = some (.lst (bs.map V.bl))) (q : Q (.bl (bs.any id)) H) : rAny K [.ref a] H Q := ⟨a, bs, rfl, .of h, q⟩
theorem w_isiB {K : PySem.W.Frag} {b : Bool} {H : Hp} {Q : VK} (q : Q (.bl true) H) : rIsi K [.bl b, .ty "bool"] H Q := ⟨.bl b, .ty "bool", .type "bool", .type "bool", true, rfl, .ty _, .base (.bl _), kit_ty (by decide +kernel), q⟩
theorem w_gTupS {K : PySem.W.Frag} {n : Nat} {t : TGs} {a : Addr} {xs : List V} {σ : L2.St} {H : Hp} {Q : L2.St → Hp → Prop} (h : SqT K H a xs) (hn : xs.length = n) (q : t xs σ H Q) : gTup K n t (.ref a) σ H Q := ⟨a, xs, rfl, h, hn, q⟩
def rIsNQ : R2 := fun x y H Q => y = .non ∧ Q (.bl (decide (x = .non))) H
def rNotNQ : R2 := fun x y H Q => y = .non ∧ Q (.bl (!decide (x = .non))) H
theorem op_isNQ {X : Cx} : OpR X (compareOp .Is) rIsNQ := op_isN
theorem op_notNQ {X : Cx} : OpR X (compareOp .IsNot) rNotNQ := op_notN
theorem w_isNN {H : Hp} {Q : VK} (q : Q (.bl true) H) : rIsNQ .non .non H Q := ⟨rfl, q⟩
theorem w_isNR {a : Addr} {H : Hp} {Q : VK} (q : Q (.bl false) H) : rIsNQ (.ref a) .non H Q := ⟨rfl, q⟩
theorem w_notNN {H : Hp} {Q : VK} (q : Q (.bl false) H) : rNotNQ .non .non H Q := ⟨rfl, q⟩
theorem w_notNR {a : Addr} {H : Hp} {Q : VK} (q : Q (.bl true) H) : rNotNQ (.ref a) .non H Q := ⟨rfl, q⟩
theorem w_par {i j : Nat} {ta : TA} {D : Ends} {σ : L2.St} {H : Hp} (q : ta σ H fun vs H1 => ∃ v w, vs = [v, w] ∧ D.nx ((σ.set i (some v)).set j (some w)) H1) : tPar i j ta D σ H := q
theorem w_par3 {i j l : Nat} {ta : TA} {D : Ends} {σ : L2.St} {H : Hp} (q : ta σ H fun vs H1 => ∃ u v w, vs = [u, v, w] ∧ D.nx (((σ.set i (some u)).set j (some v)).set l (some w)) H1) : tPar3 i j l ta D σ H := q
theorem w_two {v w : V} {B : V → V → Prop} (q : B v w) : ∃ v' w', [v, w] = [v', w'] ∧ B v' w' := ⟨v, w, rfl, q⟩
theorem w_three {u v w : V} {B : V → V → V → Prop} (q : B u v w) : ∃ u' v' w', [u, v, w] = [u', v', w'] ∧ B u' v' w' := ⟨u, v, w, rfl, q⟩
theorem w_catL {l b : Addr} {xs zs : List V} {H : Hp} {Q : VK} (h1 : H l = some (.lst xs)) (h2 : H b = some (.lst zs)) (hl : xs.length + zs.length ≤ sizeLine) (q : ∀ p H', H p = none → Same H H' → H' p = some (.lst (xs ++ zs)) → Q (.ref p) H') : rCat (.ref l) (.ref b) H Q :=
  ⟨l, b, xs, zs, rfl, rfl, h1, h2, hl, fun p np => q p _ np (fun b x e => by rw [upd_ne (ne_of_none e np)]; exact e) upd_same⟩
end Co

set_option Elab.async false
set_option linter.all false
set_option maxRecDepth 100000
set_option maxHeartbeats 4000000
namespace Co
open PySem PySem.Spec PyProof.Rows L2
/-! ### d.get(k), d.get(k, x) of a dict of the module -/
/-- what stands under a key: a value, or nothing -/
def KGet (K : PySem.W.Frag) (w : World) (a : Addr) (x : Str) (o : Option V) : Prop :=
  ∃ es n, K.lookup a = some ⟨.type "dict", none, .dict es n, #[]⟩ ∧ PySem.W.KeysLit w.params es.toList ∧ (a == sysModules) = false ∧ ((o = none ∧ PySem.W.nsIn K a x = some none) ∨ ∃ v u, o = some v ∧ PySem.W.nsIn K a x = some (some u) ∧ RelV v u)
def tKGet1 (K : PySem.W.Frag) (w : World) (td ty : TE) : TE := fun σ H Q => td σ H fun x H1 => ∃ a, x = .ref a ∧ (∃ z o, KGet K w a z o) ∧ ty σ H1 fun y H2 => ∃ z o, y = .str z ∧ KGet K w a z o ∧ Q (o.getD .non) H2
def tKGet2 (K : PySem.W.Frag) (w : World) (td ty tx : TE) : TE := fun σ H Q => td σ H fun x H1 => ∃ a, x = .ref a ∧ (∃ z o, KGet K w a z o) ∧ ty σ H1 fun y H2 => tx σ H2 fun d H3 => ∃ z o, y = .str z ∧ KGet K w a z o ∧ Q (o.getD d) H3
section
variable {X : Cx} {pins : List (Addr × Obj)} {σ : L2.St} {H : Hp} {s : Shared} {a : Addr}
theorem kget_dict (I : Inv X pins σ H s) {z : Str} {o : Option V} (g : KGet X.K X.w a z o) : s.TypeIs (.ref a) "dict" ∧ (∀ b, Value.ref a = .ref b → ∃ ob, s.heap.get? b = some ob ∧ ob.dict = none) := by
  obtain ⟨es, n, hl, hk, _, _⟩ := g
  have e := I.kIn _ _ hl
  exact ⟨⟨_, e, rfl⟩, fun b q => by cases q; exact ⟨_, e, rfl⟩⟩
theorem kget_val {z : Str} {o : Option V} (g : KGet X.K X.w a z o) : ∃ es n, X.K.lookup a = some ⟨.type "dict", none, .dict es n, #[]⟩ ∧ PySem.W.KeysLit X.w.params es.toList ∧ ((o = none ∧ PySem.findBy Value.isStrOf es z = none) ∨ ∃ v u, o = some v ∧ PySem.findBy Value.isStrOf es z = some u ∧ RelV v u) := by
  obtain ⟨es, n, hl, hk, _, h⟩ := g
  refine ⟨es, n, hl, hk, ?_⟩
  rcases h with ⟨e, h⟩ | ⟨v, u, e, h, r⟩
  · exact .inl ⟨e, PySem.W.find_K hl h⟩
  · exact .inr ⟨v, u, e, PySem.W.find_K hl h, r⟩
theorem kget1 {z : Str} {o : Option V} {t : Tok} {A : Around} {E : Value → Shared → Prop} {Q : Value → Shared → Prop} (I : Inv X pins σ H s) (g : KGet X.K X.w a z o) (h : ∀ w' s', Inv X pins σ H s' → RelV (o.getD .non) w' → Q w' s') :
    wpAny (model X.prog X.w) A (call (.builtin "dict.get") [.ref a, .str z t]) Q E s := by
  obtain ⟨es, n, hl, hk, hv⟩ := kget_val g
  obtain ⟨_, _, _, _, hm, _⟩ := id g
  have M := PySem.W.mapOf_K (prog := X.prog) (w := X.w) I.kIn hl hk
  refine call_meetsIn PySem.F.slot_dict_get M.typeIs PySem.F.entry_dict_get (PySem.F.args_dict_get_2 _ _) (meets_dict_get (strKind X.prog X.w) a (strKind_is X.prog X.w z t) hm) ⟨_, M, h _ _ (I.tok _) ?_⟩
  rcases hv with ⟨rfl, e⟩ | ⟨v, u, rfl, e, r⟩
  · rw [e]; rfl
  · rw [e]; exact r
theorem kget2 {z : Str} {o : Option V} {d : V} {r : Value} {t : Tok} {A : Around} {E : Value → Shared → Prop} {Q : Value → Shared → Prop} (I : Inv X pins σ H s) (g : KGet X.K X.w a z o) (rd : RelV d r) (h : ∀ w' s', Inv X pins σ H s' → RelV (o.getD d) w' → Q w' s') :
    wpAny (model X.prog X.w) A (call (.builtin "dict.get") [.ref a, .str z t, r]) Q E s := by
  obtain ⟨es, n, hl, hk, hv⟩ := kget_val g
  obtain ⟨_, _, _, _, hm, _⟩ := id g
  have M := PySem.W.mapOf_K (prog := X.prog) (w := X.w) I.kIn hl hk
  refine call_meetsIn PySem.F.slot_dict_get M.typeIs PySem.F.entry_dict_get (PySem.F.args_dict_get_3 _ _ _) (meets_dict_get_default (strKind X.prog X.w) a (strKind_is X.prog X.w z t) hm r) ⟨_, M, h _ _ (I.tok _) ?_⟩
  rcases hv with ⟨rfl, e⟩ | ⟨v, u, rfl, e, ru⟩
  · rw [e]; exact rd
  · rw [e]; exact ru
end
section
variable {X : Cx} {o e f : Expr} {apos cpos : Pos} {td ty tx : TE}
theorem pe_kget1 (ho : PE X o td) (he : PE X e ty) (m : M1 X o "get" apos e cpos := by first | exact ⟨rfl, rfl, rfl, rfl⟩ | exact ⟨by rfl, by rfl, by rfl, by rfl⟩) : PE X (.Call (.Attribute o "get" apos) [e] [] cpos) (tKGet1 X.K X.w td ty) := by
  refine ⟨fun pins s σ H Q I h => ?_⟩
  refine wpAny_Call_method m.base m.few m.line PySem.F.plainAttrs_dict PySem.F.slot_dict_get PySem.F.type_dict_get (thn (ho.run pins s σ H _ I h) fun u s1 ⟨x, H1, I1, rx, a, ex, ⟨z0, o0, g0⟩, q1⟩ => ?_)
  subst ex
  obtain rfl : u = Value.ref a := rx
  obtain ⟨t1, t2⟩ := kget_dict I1 g0
  refine ⟨t1, t2, ?_⟩
  rw [m.trees]
  refine Calls.callWith_builtin rfl (Calls.evalArgs_plain (Calls.spliced_cons (thn (he.run pins s1 σ H1 _ I1 q1) fun iv s2 ⟨y, H2, I2, ry, z, ov, ey, g, q2⟩ => Calls.spliced_nil ?_)))
  subst ey
  obtain ⟨t, rfl⟩ := ry
  exact kget1 I2 g fun w' s3 I3 rw' => ⟨_, H2, I3, rw', q2⟩
theorem pe_kget2 (ho : PE X o td) (he : PE X e ty) (hf : PE X f tx) (m : M2 X o "get" apos e f cpos := by first | exact ⟨rfl, rfl, rfl, rfl⟩ | exact ⟨by rfl, by rfl, by rfl, by rfl⟩) : PE X (.Call (.Attribute o "get" apos) [e, f] [] cpos) (tKGet2 X.K X.w td ty tx) := by
  refine ⟨fun pins s σ H Q I h => ?_⟩
  refine wpAny_Call_method m.base m.few m.line PySem.F.plainAttrs_dict PySem.F.slot_dict_get PySem.F.type_dict_get (thn (ho.run pins s σ H _ I h) fun u s1 ⟨x, H1, I1, rx, a, ex, ⟨z0, o0, g0⟩, q1⟩ => ?_)
  subst ex
  obtain rfl : u = Value.ref a := rx
  obtain ⟨t1, t2⟩ := kget_dict I1 g0
  refine ⟨t1, t2, ?_⟩
  rw [m.trees]
  refine Calls.callWith_builtin rfl (Calls.evalArgs_plain (Calls.spliced_cons (thn (he.run pins s1 σ H1 _ I1 q1) fun iv s2 ⟨y, H2, I2, ry, q2⟩ =>
    Calls.spliced_cons (thn (hf.run pins s2 σ H2 _ I2 q2) fun fv s3 ⟨d, H3, I3, rz, z, ov, ey, g, q3⟩ => Calls.spliced_nil ?_))))
  subst ey
  obtain ⟨t, rfl⟩ := ry
  exact kget2 I3 g rz fun w' s4 I4 rw' => ⟨_, H3, I4, rw', q3⟩
end
theorem w_kget1 {K : PySem.W.Frag} {w : World} {td ty : TE} {σ : L2.St} {H : Hp} {Q : VK} (q : td σ H fun x H1 => ∃ a, x = .ref a ∧ (∃ z o, KGet K w a z o) ∧ ty σ H1 fun y H2 => ∃ z o, y = .str z ∧ KGet K w a z o ∧ Q (o.getD .non) H2) : tKGet1 K w td ty σ H Q := q
theorem w_kget2 {K : PySem.W.Frag} {w : World} {td ty tx : TE} {σ : L2.St} {H : Hp} {Q : VK} (q : td σ H fun x H1 => ∃ a, x = .ref a ∧ (∃ z o, KGet K w a z o) ∧ ty σ H1 fun y H2 => tx σ H2 fun d H3 => ∃ z o, y = .str z ∧ KGet K w a z o ∧ Q (o.getD d) H3) : tKGet2 K w td ty tx σ H Q := q
/-! ### a def that a table holds -/
structure StF (K : PySem.W.Frag) (q : Str) (st : Stmt) (ps : List Str) (f : Addr) : Prop where
  ex : ∃ fd, Fun K q q st f fd ∧ Binds K fd ps []
theorem StF.cd {P : Program} {w : World} {K : PySem.W.Frag} {mg : Str → Option Value} {base : Heap} {x : Str} {st : Stmt} {k : Nat} {f : Addr} {N ps : List Str} {sp : Sp} (Z : StF K x st ps f) (S : FnScope N ps (defScope st)) (len : ∀ vs H Q E, sp vs H Q E → vs.length = ps.length)
    (hbody : ∀ (f : Addr) (cdv : Value) (A : Around) (outer : List Env) (s : Shared) (H : Hp) (vs : List V) (Q : VK) (E : XK), Room k (A.deeper (envOfC x (defScope st) s.heap.objs.size f cdv)) → sp vs H Q E →
      ∃ t, PSs (cxOf CX0 P w K mg base N x (defScope st) f cdv A outer s H E).nox (defBody st) t ∧ t { nx := fun _ H' => Q .non H', rt := Q } (start N vs) H) : Held P w K mg base (k + 1) f sp := by
  obtain ⟨fd, F, b⟩ := Z.ex
  exact ⟨⟨fd, ps, F.ok S len (hbody f), F.kp, b⟩⟩
theorem mkStF {K : PySem.W.Frag} {x : Str} {st : Stmt} {ps : List Str} {f : Addr} {oc : Value} {od an : Option Addr} {osl : Array (Option Value)} {kV doc pm cdv ct : Value}
    (l : K.lookup f = some ⟨oc, od, .func (PySem.W.fnOf x x (defArgs st) (defBody st) (defScope st) .none kV doc pm an cdv ct), osl⟩) (c : PySem.W.codeIn K cdv x = true) (k : PySem.W.keepIn K (.ref f) = true)
    (hb : ∀ (kV doc pm : Value) (an : Option Addr) (cdv ct : Value) (us : List Value), us.length = ps.length → bindArgs (PySem.W.fnOf x x (defArgs st) (defBody st) (defScope st) .none kV doc pm an cdv ct) ⟨us, []⟩ = pure (ps.zip us)) : StF K x st ps f :=
  ⟨_, fun_mk (st := st) l c k, (fun_mk (st := st) l c k).binds hb⟩
end Co

set_option Elab.async false
set_option linter.all false
set_option maxRecDepth 100000
set_option maxHeartbeats 4000000
namespace Co
open PySem PySem.Spec PyProof.Rows L2
/-! ### sorted(found) of a set of ints, also of 64 and more -/
section
variable {P : Program} {w : World} {A : Around} {E : Value → Shared → Prop} {s : Shared} {a : Addr}
/-- what sorted leaves: all as it was, and a new list of the members in ascending order -/
structure SortedOut (s : Shared) (S : Int → Bool) (n : Nat) (p : Addr) (ns : List Int) (s' : Shared) : Prop where
  old : ∀ b o, s.heap.get? b = some o → s'.heap.get? b = some o
  gens : s'.gens = s.gens
  os : s'.os = s.os
  new : s.heap.objs.size ≤ p
  row : ∃ (out : Array Value) (c : Nat), s'.heap.get? p = some (seqObj "list" out c) ∧ IntsAre out.toList ns
  asc : ns.Pairwise (· < ·)
  mem : ∀ k, k ∈ ns ↔ S k = true
  len : ns.length = n
theorem sortedSet_any {S : Int → Bool} {n : Nat} {Q : Value → Shared → Prop} (R : SetR w s.heap a S n) (hh : A.handled = none) (hz : n ≤ sizeLine) (hQ : ∀ s' p ns, SortedOut s S n p ns s' → Q (.ref p) s') :
    wpAny (model P w) A (call (.builtin "sorted") [.ref a]) Q E s := by
  obtain ⟨o, es, ep, t, at1, exact1, dat, good, nodup, memb, room, fits, size, ris, led⟩ := R
  refine Calls.call_function_entry kind_sorted plain_sorted entry_sorted (args_sorted1 _) ?_
  unfold Builtin.«sorted»
  refine wpAny_bind (m := checkCount "sorted" 1 1 _) (wpAny_pure (wpAny_bind (collect_set (A := A.in1) hh ⟨o, at1, exact1.1, dat⟩ fits room ris led ?_)))
  intro s1 vs keep1 _ gens1 os1 perm1
  have lvs : vs.length = n := by simpa [size] using perm1.length_eq
  have each : ∀ v ∈ vs, ∃ (k : Int) (tk : Tok), v = .int k tk := fun v hv => by
    obtain ⟨e, he, rfl⟩ := List.mem_map.mp (perm1.mem_iff.mp hv)
    obtain ⟨k, tk, h1, _⟩ := good e he
    exact ⟨k, tk, h1⟩
  have keys : (vs.map Builtin.Re.reRawOf).Perm (es.toList.map keyOf) := (perm1.map Builtin.Re.reRawOf).trans (.of_eq (by rw [List.map_map]; rfl))
  have areInts : IntsAre vs (vs.map Builtin.Re.reRawOf) := ints_of vs each
  have hv : vs.length ≤ sizeLine := by omega
  refine wpAny_bind (wpAny_newList ?_ hv)
  have there : (s1.heap.push (seqObj "list" vs.toArray 0)).get? s1.heap.objs.size = some (seqObj "list" vs.toArray 0) := Heap.get?_push_size _ rfl
  refine wpAny_bind (wpAny_holding (wpAny_call_entry slot_list_sort ⟨_, there, rfl⟩ entry_list_sort (list_sort_treeAny there areInts hv ?_) (args_list_sort _)))
  intro out ns arow aperm asc
  have all := aperm.trans keys
  refine ⟨_, rfl, wpAny_pure ⟨_, rfl, hQ _ _ ns ⟨fun b u e => ?_, gens1, os1, ‹_›, ?_, lt_of_le_nodup ns asc (all.nodup_iff.mpr nodup), fun k => by rw [all.mem_iff, memb k], by simpa [size] using all.length_eq⟩⟩⟩
  · have q := keep1 b u e
    have lt := Heap.lt_size q
    show (sortedHeap (s1.heap.push (seqObj "list" vs.toArray 0)) s1.heap.objs.size vs out).get? b = some u
    rw [sortedHeap_old (Nat.ne_of_lt lt) (by rw [size_push']; exact Nat.lt_succ_of_lt lt)]
    exact Heap.get?_push_of_some _ q
  · obtain ⟨c, hc⟩ := sortedHeap_at (vs := vs) (out := out) there
    exact ⟨out, c, hc, arow⟩
end
def rSortedB (w : World) : List V → Hp → VK → Prop := fun vs H Q => ∃ (a : Addr) (S : Int → Bool) (n : Nat), vs = [V.ref a] ∧ H a = some (SetO w a S n) ∧ n ≤ 1000 ∧
  ∀ (ns : List Int) (p : Addr) (H' : Hp), ns.Pairwise (· < ·) → (∀ k : Int, k ∈ ns ↔ S k = true) → ns.length = n → H p = none → Same H H' → H' p = some (.lst (ns.map V.int)) → Q (.ref p) H'
theorem cr_sortedB {X : Cx} (hc : X.calm = true) : CallR X (.builtin "sorted") (rSortedB X.w) := by
  intro pins s σ H vs us Q I r h
  obtain ⟨a, S, n, rfl, ha, hn, q⟩ := h
  have small : n ≤ sizeLine := Nat.le_trans hn (by decide)
  rw [Vals.ref1 r]
  refine sortedSet_any (setO_get I ha) (I.ok.hd hc) small fun s' p ns z => ?_
  have free : H p = none := I.hok.fresh z.new
  obtain ⟨out, c, at1, row⟩ := z.row
  have ok1 : ObjOk X.prog X.w (upd H p (.lst (ns.map V.int))) s'.heap p (.lst (ns.map V.int)) := ⟨by rw [List.length_map, z.len]; exact small, out.toList, c, vals_of_ints row, at1⟩
  have J : Inv X pins σ (upd H p (.lst (ns.map V.int))) { s with heap := s'.heap, gens := s'.gens, drawn := s'.drawn, toks := s'.toks } :=
    I.call (ch := []) (Un.laid z.old z.new free) (I.hok.laid z.old z.new ok1) (by rw [z.gens]; exact I.bare) (fun _ z => nomatch z)
  have same : s' = { s with heap := s'.heap, gens := s'.gens, drawn := s'.drawn, toks := s'.toks } := by
    have o := z.os
    cases s'; cases s; cases o; rfl
  rw [same]
  exact ⟨.ref p, _, J, rfl, q ns p _ z.asc z.mem z.len free (Same.new free) upd_same⟩
theorem w_sortedB {w : World} {a : Addr} {S : Int → Bool} {n : Nat} {H : Hp} {Q : VK} (h : H a = some (SetO w a S n)) (hn : n ≤ 1000) (q : ∀ (ns : List Int) (p : Addr) H', ns.Pairwise (· < ·) → (∀ k : Int, k ∈ ns ↔ S k = true) → ns.length = n → H p = none → Same H H' → H' p = some (.lst (ns.map V.int)) → Q (.ref p) H') : rSortedB w [.ref a] H Q :=
  ⟨a, S, n, rfl, h, hn, q⟩
theorem w_sortedOfB {w : World} {D : Addr} {ns : List Int} {c : Nat} {H : Hp} {Q : VK} (h : H D = some (SetO w D (fun j => decide (j ∈ ns)) c)) (hc : c ≤ 1000) (q : ∀ (ms : List Int) (p : Addr) H', ms.Pairwise (· < ·) → (∀ k : Int, k ∈ ms ↔ k ∈ ns) → ms.length = c → H p = none → Same H H' → H' p = some (.lst (ms.map V.int)) → Q (.ref p) H') : rSortedB w [.ref D] H Q :=
  w_sortedB h hc fun ms p H' h1 h2 h3 h4 h5 h6 => q ms p H' h1 (fun k => (h2 k).trans decide_eq_true_iff) h3 h4 h5 h6
/-! ### a list's comprehension of two clauses, over tuples -/
/-- the inner clause's loop -/
def kIn2 (g1 : TG) (tt1 : TT) (te : TE) (vs1 : List Nat) (σ2 : L2.St) (D : Addr) (Nx : Hp → Prop) : It → Hp → Prop := fun J1 H4 => ∃ W1 : Nat → Nat → Hp → Prop, (∃ m, W1 0 m H4) ∧ ∀ j k H, W1 j k H →
  (J1.stop j H ∧ Nx H) ∨ (J1.go j H ∧ ∃ Nx1 : Hp → Prop, (∀ H', Nx1 H' → ∃ k', k' < k ∧ W1 (j + 1) k' H') ∧ ∀ x H', J1.yld j H x H' → g1 x (wipe σ2 vs1) H' fun σ3 H5 => wipe σ3 vs1 = wipe σ2 vs1 ∧ tt1 σ3 H5 fun b H6 =>
    if b = true then te σ3 H6 fun y H7 => ∃ acc, H7 D = some (.lst acc) ∧ acc.length < sizeLine ∧ Nx1 (upd H7 D (.lst (acc ++ [y]))) else Nx1 H6)
/-- the whole, from its first source's iterator on -/
def kLc2 (g : TG) (tt : TT) (wi1 : TI) (g1 : TG) (tt1 : TT) (te : TE) (vs vs1 : List Nat) (σ : L2.St) (Q : VK) : It → Hp → Prop := fun J H1 => ∀ D, H1 D = none → ∃ W : Nat → Nat → Hp → Prop, (∃ m, W 0 m (upd H1 D (.lst []))) ∧ ∀ i m H, W i m H →
  (J.stop i H ∧ Q (.ref D) H) ∨ (J.go i H ∧ ∃ Nx : Hp → Prop, (∀ H', Nx H' → ∃ m', m' < m ∧ W (i + 1) m' H') ∧ ∀ x H', J.yld i H x H' → g x (wipe σ vs) H' fun σ2 H2 => wipe σ2 vs = wipe σ vs ∧ tt σ2 H2 fun b H3 =>
    if b = true then wi1 σ2 H3 (kIn2 g1 tt1 te vs1 σ2 D Nx) else Nx H3)
theorem w_lc2 {wi : TI} {g : TG} {tt : TT} {wi1 : TI} {g1 : TG} {tt1 : TT} {te : TE} {vs vs1 : List Nat} {σ : L2.St} {H : Hp} {Q : VK} (q : wi σ H (kLc2 g tt wi1 g1 tt1 te vs vs1 σ Q)) : tLc2 wi g tt wi1 g1 tt1 te vs vs1 σ H Q := q
theorem w_lc2T {K : PySem.W.Frag} {g : TG} {tt : TT} {wi1 : TI} {g1 : TG} {tt1 : TT} {te : TE} {vs vs1 : List Nat} {σ : L2.St} {H : Hp} {Q : VK} {a : Addr} (xs : List V) (Pv : Addr → Nat → Hp → Prop) (hS : SqT K H a xs) (h0 : ∀ D, H D = none → Pv D 0 (upd H D (.lst []))) (hl : ∀ D i H, Pv D i H → SqT K H a xs)
    (hs : ∀ D i x H, xs[i]? = some x → Pv D i H → g x (wipe σ vs) H fun σ2 H2 => wipe σ2 vs = wipe σ vs ∧ tt σ2 H2 fun b H3 => if b = true then wi1 σ2 H3 (kIn2 g1 tt1 te vs1 σ2 D (Pv D (i + 1))) else Pv D (i + 1) H3)
    (hd : ∀ D H', H D = none → Pv D xs.length H' → Q (.ref D) H') : kIT K (kLc2 g tt wi1 g1 tt1 te vs vs1 σ Q) (.ref a) H := by
  refine ⟨a, rfl, ⟨_, hS⟩, fun D nD => ⟨fun i m H => m = xs.length - i ∧ i ≤ xs.length ∧ Pv D i H, ⟨xs.length, by simp, Nat.zero_le _, h0 D nD⟩, ?_⟩⟩
  rintro i m H' ⟨rfl, hi, p⟩
  rcases Nat.lt_or_ge i xs.length with lt | ge
  · refine .inr ⟨⟨xs, xs[i], hl D i H' p, by simp [lt]⟩, Pv D (i + 1), fun H2 p2 => ⟨xs.length - (i + 1), by omega, rfl, lt, p2⟩, fun v H2 y => ?_⟩
    obtain ⟨rfl, e⟩ : H2 = H' ∧ xs[i]? = some v := ⟨y.1, y.2 xs (hl D i H' p)⟩
    exact hs D i v _ e p
  · obtain rfl : i = xs.length := by omega
    exact .inl ⟨⟨xs, hl D _ H' p, Nat.le_refl _⟩, hd D H' nD p⟩
theorem w_in2T {K : PySem.W.Frag} {g1 : TG} {tt1 : TT} {te : TE} {vs1 : List Nat} {σ2 : L2.St} {D b : Addr} {Nx : Hp → Prop} {H : Hp} (ys : List V) (Pw : Nat → Hp → Prop) (hS : SqT K H b ys) (h0 : Pw 0 H) (hl : ∀ i H, Pw i H → SqT K H b ys)
    (hs : ∀ j y H, ys[j]? = some y → Pw j H → g1 y (wipe σ2 vs1) H fun σ3 H5 => wipe σ3 vs1 = wipe σ2 vs1 ∧ tt1 σ3 H5 fun b H6 =>
      if b = true then te σ3 H6 fun y H7 => ∃ acc, H7 D = some (.lst acc) ∧ acc.length < sizeLine ∧ Pw (j + 1) (upd H7 D (.lst (acc ++ [y]))) else Pw (j + 1) H6)
    (hd : ∀ H, Pw ys.length H → Nx H) : kIT K (kIn2 g1 tt1 te vs1 σ2 D Nx) (.ref b) H := by
  refine ⟨b, rfl, ⟨_, hS⟩, fun i m H => m = ys.length - i ∧ i ≤ ys.length ∧ Pw i H, ⟨ys.length, by simp, Nat.zero_le _, h0⟩, ?_⟩
  rintro i m H' ⟨rfl, hi, p⟩
  rcases Nat.lt_or_ge i ys.length with lt | ge
  · refine .inr ⟨⟨ys, ys[i], hl i H' p, by simp [lt]⟩, Pw (i + 1), fun H2 p2 => ⟨ys.length - (i + 1), by omega, rfl, lt, p2⟩, fun v H2 y => ?_⟩
    obtain ⟨rfl, e⟩ : H2 = H' ∧ ys[i]? = some v := ⟨y.1, y.2 ys (hl i H' p)⟩
    exact hs i v _ e p
  · obtain rfl : i = ys.length := by omega
    exact .inl ⟨⟨ys, hl _ H' p, Nat.le_refl _⟩, hd H' p⟩
theorem pi_tupK {X : Cx} {K' : PySem.W.Frag} {tg l : Expr} {tl : TE} (hK : X.K = K') (hl : PE X l tl) : PI X tg l (iTup K' tl) := by subst hK; exact pi_tup hl
theorem pi_listK {X : Cx} {K' : PySem.W.Frag} {tg l : Expr} {tl : TE} (hK : X.K = K') (hl : PE X l tl) : PI X tg l (iList K' tl) := by subst hK; exact pi_list hl
end Co

set_option Elab.async false
set_option linter.all false
set_option maxRecDepth 100000
set_option maxHeartbeats 4000000
namespace Co
open PySem PySem.Spec PyProof.Rows L2
/-! ### objects of a class: methods, fields, new ones -/
/-- the class with the names of its fields -/
structure Ob (K : PySem.W.Frag) (C : Addr) (fs : List Str) : Prop where
  cl : Cls K C
  na : ∀ f ∈ fs, NoAttr K C f
/-- the method m of C keeps a promise -/
structure Md (P : Program) (w : World) (K : PySem.W.Frag) (mg : Str → Option Value) (base : Heap) (k : Nat) (C : Addr) (m : Str) (sp : Sp) : Prop where
  ex : ∃ (f : Addr) (fd : FuncData) (ps : List Str), FnOk P w K mg base CX0 k f fd ps sp ∧ Meth K C m f ∧ Binds K fd ps []
def tMd (C : Addr) (m : Str) (sp : Sp) (ta : TE) (t : TA) : TE := fun σ H Q => ta σ H fun x H1 => ∃ a dx fs, x = .ref a ∧ H1 a = some (.ins C dx fs) ∧ fs.lookup m = none ∧ t σ H1 fun vs H2 => sp (x :: vs) H2 Q E0
section
variable {X : Cx} {k j : Nat} {m f : Str} {C : Addr} {sp : Sp} {apos pos p : Pos} {o e : Expr} {es : List Expr} {ta : TE} {t : TA}
theorem pe_md {pl : Sem Bool} (c : Cls X.K C) (d : Md X.prog X.w X.K X.mg X.base k C m sp) (hr : Room j X.A) (hk : k ≤ j) (ho : PE X o ta) (ha : PA X (e :: es) t)
    (hst : starEach (e :: es) X.env = (false, eval e X.env) :: starEach es X.env := by rfl) (hpl : (backTo pos (starEach es X.env)).any (·.1) = false := by rfl)
    (ht : eval (.Call (.Attribute o m apos) (e :: es) [] pos) X.env = (do
      let ov ← eval o X.env
      standAt apos.atName
      let (g, first) ← holding [ov] (getMethod ov m pl)
      callWith pos g first (backTo pos (starEach (e :: es) X.env)) (backToKw pos (keywordEach [] X.env))) := by rfl) :
    PE X (.Call (.Attribute o m apos) (e :: es) [] pos) (tMd C m sp ta t) := by
  obtain ⟨f, fd, ps, F, hm, b⟩ := d.ex
  have z := pe_meth (dvs := []) (E := E0) ho c hm F (hr.mono hk) b .nil pass0 ha hst hpl ht
  refine ⟨fun pins s σ H Q I h => z.run pins s σ H Q I ?_⟩
  refine (?_ : tMd C m sp ta t = tMeth C m sp [] E0 ta t) ▸ h
  unfold tMd tMeth
  simp only [List.append_nil]
theorem pe_md0 {pl : Sem Bool} (c : Cls X.K C) (d : Md X.prog X.w X.K X.mg X.base k C m sp) (hr : Room j X.A) (hk : k ≤ j) (ho : PE X o ta)
    (ht : eval (.Call (.Attribute o m apos) [] [] pos) X.env = (do
      let ov ← eval o X.env
      standAt apos.atName
      let (g, first) ← holding [ov] (getMethod ov m pl)
      callWith pos g first (backTo pos (starEach [] X.env)) (backToKw pos (keywordEach [] X.env))) := by rfl) :
    PE X (.Call (.Attribute o m apos) [] [] pos) (tMd C m sp ta tNil) := by
  obtain ⟨f, fd, ps, F, hm, b⟩ := d.ex
  exact pe_meth0 (dvs := []) (E := E0) ho c hm F (hr.mono hk) b .nil pass0 ht
end
/-- the class x makes objects -/
structure Mkr (P : Program) (w : World) (K : PySem.W.Frag) (mg : Str → Option Value) (base : Heap) (k : Nat) (x : Str) (C : Addr) (sp : Sp) : Prop where
  ex : ∃ (f : Addr) (fd : FuncData) (ps : List Str), FnOk P w K mg base CX0 k f fd ps sp ∧ Mk K C f ∧ Binds K fd ps [] ∧ mg x = some (.ref C)
def tMkr (C : Addr) (sp : Sp) (t : TA) : TE := fun σ H Q => t σ H fun vs H1 => ∀ x dx, H1 x = none → H1 dx = none → dx ≠ x → sp (.ref x :: vs) (upd (upd H1 dx (.own x)) x (.ins C dx [])) (fun v H2 => v = .non ∧ Q (.ref x) H2) E0
theorem pe_mkr {X : Cx} {k j : Nat} {x : Str} {C : Addr} {sp : Sp} {pos p : Pos} {e : Expr} {es : List Expr} {t : TA} (c : Mkr X.prog X.w X.K X.mg X.base k x C sp) (hr : Room j X.A) (hk : k + 1 ≤ j) (hg : Gl X x) (ha : PA X (e :: es) t)
    (hdb : (x == ("__debug__" : Str)) = false := by decide) (he : starEach (e :: es) X.env = (false, eval e X.env) :: starEach es X.env := by rfl) (hpl : (backTo pos (starEach es X.env)).any (·.1) = false := by rfl) :
    PE X (.Call (.Name x p) (e :: es) [] pos) (tMkr C sp t) := by
  obtain ⟨f, fd, ps, F, M, b, hm⟩ := c.ex
  have z := pe_make (dvs := []) (E := E0) (pos := pos) (p := p) M F (hr.mono hk) hg hm b .nil pass0 ha hdb he hpl
  refine ⟨fun pins s σ H Q I h => z.run pins s σ H Q I ?_⟩
  refine (?_ : tMkr C sp t = tMake C sp [] E0 t) ▸ h
  unfold tMkr tMake
  simp only [List.append_nil]
/-- a method that stands -/
structure StM (K : PySem.W.Frag) (C : Addr) (m qual : Str) (st : Stmt) (ps : List Str) : Prop where
  ex : ∃ f fd, Fun K m qual st f fd ∧ Binds K fd ps [] ∧ Meth K C m f
theorem StM.md {P : Program} {w : World} {K : PySem.W.Frag} {mg : Str → Option Value} {base : Heap} {C : Addr} {m qual : Str} {st : Stmt} {k : Nat} {N ps : List Str} {sp : Sp} (Z : StM K C m qual st ps) (S : FnScope N ps (defScope st)) (len : ∀ vs H Q E, sp vs H Q E → vs.length = ps.length)
    (hbody : ∀ (f : Addr) (cdv : Value) (A : Around) (outer : List Env) (s : Shared) (H : Hp) (vs : List V) (Q : VK) (E : XK), Room k (A.deeper (envOfC qual (defScope st) s.heap.objs.size f cdv)) → sp vs H Q E →
      ∃ t, PSs (cxOf CX0 P w K mg base N qual (defScope st) f cdv A outer s H E).nox (defBody st) t ∧ t { nx := fun _ H' => Q .non H', rt := Q } (start N vs) H) : Md P w K mg base (k + 1) C m sp := by
  obtain ⟨f, fd, F, b, hm⟩ := Z.ex
  exact ⟨⟨f, fd, ps, F.ok S len (hbody f), hm, b⟩⟩
theorem mkStM {K : PySem.W.Frag} {C : Addr} {m qual : Str} {st : Stmt} {ps : List Str} {f : Addr} {oc : Value} {od an : Option Addr} {osl : Array (Option Value)} {kV doc pm cdv ct : Value}
    (a : PySem.W.findIn K (.ref C) m = some (some (.ref f))) (i : PySem.W.isFn K (.ref f) = true) (l : K.lookup f = some ⟨oc, od, .func (PySem.W.fnOf m qual (defArgs st) (defBody st) (defScope st) .none kV doc pm an cdv ct), osl⟩) (c : PySem.W.codeIn K cdv qual = true) (k : PySem.W.keepIn K (.ref f) = true)
    (hb : ∀ (kV doc pm : Value) (an : Option Addr) (cdv ct : Value) (us : List Value), us.length = ps.length → bindArgs (PySem.W.fnOf m qual (defArgs st) (defBody st) (defScope st) .none kV doc pm an cdv ct) ⟨us, []⟩ = pure (ps.zip us)) : StM K C m qual st ps :=
  ⟨f, _, fun_mk (st := st) l c k, (fun_mk (st := st) l c k).binds hb, a, i, k⟩
/-- the standing __init__ of a class that makes objects -/
structure StI (K : PySem.W.Frag) (mg : Str → Option Value) (x : Str) (C : Addr) (qual : Str) (st : Stmt) (ps : List Str) : Prop where
  ex : ∃ f fd, Fun K "__init__" qual st f fd ∧ Binds K fd ps [] ∧ Mk K C f ∧ mg x = some (.ref C)
theorem StI.mkr {P : Program} {w : World} {K : PySem.W.Frag} {mg : Str → Option Value} {base : Heap} {x : Str} {C : Addr} {qual : Str} {st : Stmt} {k : Nat} {N ps : List Str} {sp : Sp} (Z : StI K mg x C qual st ps) (S : FnScope N ps (defScope st)) (len : ∀ vs H Q E, sp vs H Q E → vs.length = ps.length)
    (hbody : ∀ (f : Addr) (cdv : Value) (A : Around) (outer : List Env) (s : Shared) (H : Hp) (vs : List V) (Q : VK) (E : XK), Room k (A.deeper (envOfC qual (defScope st) s.heap.objs.size f cdv)) → sp vs H Q E →
      ∃ t, PSs (cxOf CX0 P w K mg base N qual (defScope st) f cdv A outer s H E).nox (defBody st) t ∧ t { nx := fun _ H' => Q .non H', rt := Q } (start N vs) H) : Mkr P w K mg base (k + 1) x C sp := by
  obtain ⟨f, fd, F, b, hm, hg⟩ := Z.ex
  exact ⟨⟨f, fd, ps, F.ok S len (hbody f), hm, b, hg⟩⟩
theorem mkStI {K : PySem.W.Frag} {mg : Str → Option Value} {x : Str} {C : Addr} {qual : Str} {st : Stmt} {ps : List Str} {f : Addr} {oc : Value} {od an : Option Addr} {osl : Array (Option Value)} {kV doc pm cdv ct : Value}
    (mx : mg x = some (.ref C)) (mk : PySem.W.makesIn K C = true) (kc : PySem.W.keepIn K (.ref C) = true)
    (a : PySem.W.findIn K (.ref C) "__init__" = some (some (.ref f))) (i : PySem.W.isFn K (.ref f) = true) (l : K.lookup f = some ⟨oc, od, .func (PySem.W.fnOf "__init__" qual (defArgs st) (defBody st) (defScope st) .none kV doc pm an cdv ct), osl⟩) (c : PySem.W.codeIn K cdv qual = true) (k : PySem.W.keepIn K (.ref f) = true)
    (hb : ∀ (kV doc pm : Value) (an : Option Addr) (cdv ct : Value) (us : List Value), us.length = ps.length → bindArgs (PySem.W.fnOf "__init__" qual (defArgs st) (defBody st) (defScope st) .none kV doc pm an cdv ct) ⟨us, []⟩ = pure (ps.zip us)) : StI K mg x C qual st ps :=
  ⟨f, _, fun_mk (st := st) l c k, (fun_mk (st := st) l c k).binds hb, ⟨mk, a, i, kc⟩, mx⟩
/-- a def that stands under another name -/
structure StA (K : PySem.W.Frag) (mg : Str → Option Value) (x q : Str) (st : Stmt) (ps : List Str) : Prop where
  ex : ∃ f fd, Fun K q q st f fd ∧ Binds K fd ps [] ∧ mg x = some (.ref f)
theorem StA.cd {P : Program} {w : World} {K : PySem.W.Frag} {mg : Str → Option Value} {base : Heap} {x q : Str} {st : Stmt} {k : Nat} {N ps : List Str} {sp : Sp} (Z : StA K mg x q st ps) (S : FnScope N ps (defScope st)) (len : ∀ vs H Q E, sp vs H Q E → vs.length = ps.length)
    (hbody : ∀ (f : Addr) (cdv : Value) (A : Around) (outer : List Env) (s : Shared) (H : Hp) (vs : List V) (Q : VK) (E : XK), Room k (A.deeper (envOfC q (defScope st) s.heap.objs.size f cdv)) → sp vs H Q E →
      ∃ t, PSs (cxOf CX0 P w K mg base N q (defScope st) f cdv A outer s H E).nox (defBody st) t ∧ t { nx := fun _ H' => Q .non H', rt := Q } (start N vs) H) : Cd P w K mg base (k + 1) x sp := by
  obtain ⟨f, fd, F, b, hm⟩ := Z.ex
  exact ⟨⟨f, fd, ps, F.ok S len (hbody f), hm, F.kp, b⟩⟩
theorem mkStA {K : PySem.W.Frag} {mg : Str → Option Value} {x q : Str} {st : Stmt} {ps : List Str} {h : Heap} {f : Addr} {oc : Value} {od an : Option Addr} {osl : Array (Option Value)} {kV doc pm cdv ct : Value} (X : K.In h) (G : h.Ns mainGlobals mg)
    (a : PySem.W.nsIn K mainGlobals x = some (some (.ref f))) (l : K.lookup f = some ⟨oc, od, .func (PySem.W.fnOf q q (defArgs st) (defBody st) (defScope st) .none kV doc pm an cdv ct), osl⟩) (c : PySem.W.codeIn K cdv q = true) (k : PySem.W.keepIn K (.ref f) = true)
    (hb : ∀ (kV doc pm : Value) (an : Option Addr) (cdv ct : Value) (us : List Value), us.length = ps.length → bindArgs (PySem.W.fnOf q q (defArgs st) (defBody st) (defScope st) .none kV doc pm an cdv ct) ⟨us, []⟩ = pure (ps.zip us)) : StA K mg x q st ps :=
  ⟨f, _, fun_mk (st := st) l c k, (fun_mk (st := st) l c k).binds hb, PySem.W.mg_of X G a⟩
/-! backward readings -/
def kFld (K : PySem.W.Frag) (f : Str) (Q : VK) : VK := fun x H1 => ∃ a C dx fs v, x = .ref a ∧ H1 a = some (.ins C dx fs) ∧ Cls K C ∧ NoAttr K C f ∧ fs.lookup f = some v ∧ Q v H1
def kFldS (K : PySem.W.Frag) (f : Str) (D : Ends) (σ : L2.St) (y : V) : VK := fun x H2 => ∃ a C dx fs, x = .ref a ∧ H2 a = some (.ins C dx fs) ∧ Cls K C ∧ NoAttr K C f ∧ fs.length < 1000 ∧ D.nx σ (upd H2 a (.ins C dx (putF f y fs)))
def kMd (C : Addr) (m : Str) (t : TA) (σ : L2.St) (k : V → List V → Hp → Prop) : VK := fun x H1 => ∃ a dx fs, x = .ref a ∧ H1 a = some (.ins C dx fs) ∧ fs.lookup m = none ∧ t σ H1 fun vs H2 => k x vs H2
section
variable {K : PySem.W.Frag} {σ : L2.St} {H : Hp} {Q : VK} {D : Ends} {ta tv : TE} {t : TA} {f m : Str} {C a dx : Addr} {fs : List (Str × V)} {F : List Str} {v y : V} {sp : Sp}
theorem w_fld (q : ta σ H (kFld K f Q)) : tFld K ta f σ H Q := q
theorem w_kFld (T : Ob K C F) (h : H a = some (.ins C dx fs)) (hf : f ∈ F) (l : fs.lookup f = some v) (q : Q v H) : kFld K f Q (.ref a) H := ⟨a, C, dx, fs, v, rfl, h, T.cl, T.na f hf, l, q⟩
theorem w_fldS (q : tv σ H fun y H1 => ta σ H1 (kFldS K f D σ y)) : sFld K ta tv f D σ H := q
theorem w_kFldS {fs' : List (Str × V)} (T : Ob K C F) (h : H a = some (.ins C dx fs)) (hf : f ∈ F) (hl : fs.length < 1000) (e : putF f y fs = fs') (q : ∀ H', H' a = some (.ins C dx fs') → But a H H' → D.nx σ H') : kFldS K f D σ y (.ref a) H :=
  ⟨a, C, dx, fs, rfl, h, T.cl, T.na f hf, hl, q _ (by rw [e]; exact upd_same) But.set⟩
theorem w_md (q : ta σ H (kMd C m t σ fun x vs H2 => sp (x :: vs) H2 Q E0)) : tMd C m sp ta t σ H Q := q
theorem w_kMd {k : V → List V → Hp → Prop} (h : H a = some (.ins C dx fs)) (l : fs.lookup m = none) (q : t σ H fun vs H2 => k (.ref a) vs H2) : kMd C m t σ k (.ref a) H := ⟨a, dx, fs, rfl, h, l, q⟩
def kMkr (C : Addr) (sp : Sp) (Q : VK) : List V → Hp → Prop := fun vs H1 => ∀ x dx, H1 x = none → H1 dx = none → dx ≠ x → sp (.ref x :: vs) (upd (upd H1 dx (.own x)) x (.ins C dx [])) (fun v H2 => v = .non ∧ Q (.ref x) H2) E0
theorem w_mkr (q : t σ H (kMkr C sp Q)) : tMkr C sp t σ H Q := q
def kFldA (K : PySem.W.Frag) (f : Str) (tv : TE) (rd : V → V → Hp → VK → Prop) (D : Ends) (σ : L2.St) : VK := fun x H1 => ∃ a C dx fs v, x = .ref a ∧ H1 a = some (.ins C dx fs) ∧ Cls K C ∧ NoAttr K C f ∧ fs.lookup f = some v ∧
  tv σ H1 fun y H2 => rd v y H2 fun z H3 => ∃ dx' fs', H3 a = some (.ins C dx' fs') ∧ fs'.length < 1000 ∧ D.nx σ (upd H3 a (.ins C dx' (putF f z fs')))
theorem w_fldA {rd : V → V → Hp → VK → Prop} (q : ta σ H (kFldA K f tv rd D σ)) : sFldAug K ta tv rd f D σ H := q
end
end Co

set_option Elab.async false
set_option linter.all false
set_option maxRecDepth 100000
set_option maxHeartbeats 4000000
namespace Co
open PySem PySem.Spec PyProof.Rows GenW L2
/-! ### a for loop in a generator -/
section
variable {M : Model} {A : Around} {R : GenEnd} {Y : Protocol} {n : Nat} {s₀ s : Shared} {c : Code} {fs : List Frame} {env : Env} {K : Flow → Sem PySem.Fin} {H : Value → Sem PySem.Fin} {gd : Bool → Bool} {lv : List Value → List Value}
theorem seg_holding {α : Type} {vs : List Value} {m : Sem α} {K : α → Sem PySem.Fin}
    (h : wpAny M (A.over c fs) m (fun a s' => Seg M A R Y n s₀ c (K a) fs s') (fun x s' => Seg M A R Y n s₀ c (H x) fs s') s) :
    Seg M A R Y n s₀ c ((holding vs m).wrap K H gd lv) fs s := seg_wrap (wpAny_holding h)
theorem seg_ForG {tg iter : Expr} {body orelse : List Stmt} {pos : Pos}
    (h : wpAny M (A.over c fs) (eval iter env) (fun x s1 => wpAny M (A.over c fs) (pyIter x) (fun it s2 => ∀ p, Seg M A R Y n s₀ (.forLoop tg it body orelse env) (M.den (.forLoop tg it body orelse env))
      (.ret (fun r => ((match r with | .ok f => (.pure f : Sem Flow) | .error e => .raise e).onRaise (cameBack env)).wrap K H gd lv) none (gd false) (lv []) c p [] :: fs) s2)
      (fun x s' => Seg M A R Y n s₀ c (H x) fs s') s1) (fun x s' => Seg M A R Y n s₀ c (H x) fs s') s)
    (hs : ∀ x, foldedSetIterable iter env x = pure x) : Seg M A R Y n s₀ c ((exec (.For tg iter body orelse pos) env).wrap K H gd lv) fs s := by
  rw [exec_For]
  refine seg_bind_wrap (wpAny_standAt ?_)
  refine seg_bind_wrap (wpAny_mono h (fun x s1 h1 => ?_) fun x s' hx => hx)
  refine seg_bind_wrap (wpAny_of_eq (hs x) ?_)
  refine seg_bind_wrap (wpAny_standAt ?_)
  refine seg_bind_wrap (wpAny_holding (wpAny_mono h1 (fun it s2 h2 => ?_) fun x s' hx => hx))
  exact seg_call h2
/-- what an exception does that leaves the turn -/
abbrev outE (env : Env) : Value → Sem PySem.Fin := fun e => (do noteFrame e env; theTreesLotGoes e : Sem Unit).wrap (fun _ => .raise e) .raise id id
end
section
variable {prog : Program} {w : World} {A : Around} {R : GenEnd} {Y : Protocol} {n : Nat} {s₀ : Shared} {fs : List Frame} {s : Shared} {env : Env}
theorem seg_forLoopG {tg : Expr} {it : Value} {body orelse : List Stmt}
    (h : wpAny (model prog w) (A.over (.forLoop tg it body orelse env) fs) (pyNext it) (fun r s1 => match r with
        | none => Seg (model prog w) A R Y n s₀ (.forLoop tg it body orelse env) (.pure (.again (.block orelse env))) fs s1
        | some v => wpAny (model prog w) (A.over (.forLoop tg it body orelse env) fs) (letOwnedTupleGo tg it v) (fun _ s2 => wpAny (model prog w) (A.over (.forLoop tg it body orelse env) fs) (assign tg env v) (fun _ s3 =>
            Seg (model prog w) A R Y n s₀ (.forLoop tg it body orelse env) ((execs body env).wrap (fun f => match f with
              | .next | .cont => .pure (.again (.forLoop tg it body orelse env))
              | .brk => .pure (.done .next)
              | .ret v => .pure (.done (.ret v))) (outE env) id id) fs s3)
            (fun x s' => Seg (model prog w) A R Y n s₀ (.forLoop tg it body orelse env) (outE env x) fs s') s2)
            (fun x s' => Seg (model prog w) A R Y n s₀ (.forLoop tg it body orelse env) (outE env x) fs s') s1)
      (fun x s' => Seg (model prog w) A R Y n s₀ (.forLoop tg it body orelse env) (outE env x) fs s') s) :
    Seg (model prog w) A R Y n s₀ (.forLoop tg it body orelse env) ((model prog w).den (.forLoop tg it body orelse env)) fs s := by
  show Seg _ A R Y n s₀ _ ((forTurn tg it body orelse env).onRaise (fun x => do noteFrame x env; theTreesLotGoes x)) fs s
  have eo : ∀ x : Value, ((do noteFrame x env; theTreesLotGoes x : Sem Unit).bind fun _ => (Sem.raise x : Sem PySem.Fin)) = outE env x := fun x => Sem.bind_eq_wrap _ _
  rw [Sem.onRaise_eq_wrap]
  unfold forTurn
  refine seg_bind_wrap (wpAny_standAt ?_)
  refine seg_bind_wrap (wpAny_onRaise (wpAny_mono h (fun r s1 h1 => ?_) fun x s' hx => wpAny_standAt ?_))
  · cases r with
    | none =>
      exact h1
    | some v =>
      refine seg_bind_wrap (wpAny_mono h1 (fun _ s2 h2 => ?_) fun x s' hx => ?_)
      · refine seg_bind_wrap (wpAny_mono h2 (fun _ s3 h3 => ?_) fun x s' hx => ?_)
        · rw [Sem.bind_eq_wrap', Sem.wrap_wrap]
          rw [Sem.wrap_congr (execs body env) _ _ (K' := fun f => match f with
            | .next | .cont => .pure (.again (.forLoop tg it body orelse env))
            | .brk => .pure (.done .next)
            | .ret v => .pure (.done (.ret v))) (H' := outE env)
            (fun f => by cases f <;> rfl)
            (fun e => by first | exact eo e | (show ((do noteFrame e env; theTreesLotGoes e : Sem Unit).bind fun _ => (Sem.raise e : Sem PySem.Fin)) = _; exact eo e))]
          exact h3
        · rw [← eo] at hx; exact hx
      · rw [← eo] at hx; exact hx
  · rw [← eo] at hx; exact hx
/-- the end of the loop: its else, which is empty -/
theorem seg_blockNil {tgE : List Stmt} (he : tgE = []) {c : Code} (h : Seg (model prog w) A R Y n s₀ (.block [] env) (leafOf (.ok .next)) fs s) : Seg (model prog w) A R Y n s₀ c (.pure (.again (.block tgE env))) fs s := by
  subst he
  refine seg_again rfl ?_
  exact h
end
/-- W: the invariant by the turn, a measure, and what is out -/
def tGFor (wi : TI) (g : TG) (tb : TGn) : TGn := fun D ys σ H => wi σ H fun J H1 => ∃ W : Nat → Nat → List V → L2.St → Hp → Prop, (∃ m, W 0 m ys σ H1) ∧ ∀ i m ys σ H, W i m ys σ H →
  (J.stop i H ∧ D.nx ys σ H) ∨ (J.go i H ∧ ∃ N : List V → L2.St → Hp → Prop, (∀ ys' σ' H', N ys' σ' H' → ∃ m', m' < m ∧ W (i + 1) m' ys' σ' H') ∧ ∀ x H', J.yld i H x H' → g x σ H' fun σ2 H2 => tb { D with nx := N, ct := N, bk := D.nx } ys σ2 H2)
theorem gs_for {X : Cx} {tg iter : Expr} {body : List Stmt} {wi : TI} {g : TG} {tb : TGn} {pos : Pos} (hp : PassesOwn (model X.prog X.w) X.A X.env X.xe) (hc : X.calm = true) (hi : PI X tg iter wi) (hg : PG X tg g) (hb : GSs X body tb)
    (hs : ∀ x, foldedSetIterable iter X.env x = pure x := by intro _; rfl) : GS X (.For tg iter body [] pos) (tGFor wi g tb) := by
  refine ⟨fun A S ip R n ys s₀ c fs K J gd lv s σ H D gc hn k hI ht => ?_⟩
  refine seg_ForG ?_ hs
  rw [gc.over]
  obtain ⟨acc, cc, r, I⟩ := hI
  refine wpAny_mono (hi.run _ s σ H _ I ht) (fun v s1 h1 => wpAny_mono h1 (fun itv s2 h2 p => ?_) fun x s' hx => k.exc n s₀ x s' hx) fun x s' hx => k.exc n s₀ x s' hx
  obtain ⟨it, fp, tn, J', H2, e, I2, T, st2, f2, W, ⟨m0, w0⟩, turn⟩ := h2
  subst e
  have gl := fun (kk : Result → Sem PySem.Fin) => gc_loop (k := kk) (c' := .forLoop tg (.ref it) body [] X.env) (l := lv []) (kp := []) (p := p) gc rfl rfl
  have stat : ∀ {acc' : Array Value} {c' : Nat} {H' : Hp}, (∀ b ∈ fp, H' b = none) → ∀ b ∈ fp, FpOk X ((S, lstObj acc' c') :: ip) H' b := fun {acc' c' H'} hn b hb => by
    obtain ⟨_, g1, g2, g3, g4, g5⟩ := f2 b hb
    refine ⟨hn b hb, g1, g2, g3, g4, fun q hq => ?_⟩
    rcases List.mem_append.mp hq with hq | hq
    · exact g5 q (List.mem_append_left _ hq)
    · rcases List.mem_cons.mp hq with rfl | hq
      · exact g5 (S, lstObj acc cc) (List.mem_append_right _ List.mem_cons_self)
      · exact g5 q (List.mem_append_right _ (List.mem_cons_of_mem _ hq))
  have nS : ∀ b ∈ fp, b ≠ S := fun b hb => ((f2 b hb).2.2.2.2.2 (S, lstObj acc cc) (List.mem_append_right _ List.mem_cons_self)).symm
  have loop : ∀ (m i n : Nat) (ys : List V) (s₀ s : Shared) (σ : L2.St) (H : Hp), n + ys.length = sizeLine → W i m ys σ H → GI X S ip ys σ H s → tn i s.heap → (∀ b ∈ fp, H b = none) →
      Seg (model X.prog X.w) A R (GY X S) n s₀ (.forLoop tg (.ref it) body [] X.env) ((model X.prog X.w).den (.forLoop tg (.ref it) body [] X.env))
        (.ret (fun r => ((match r with | .ok f => (.pure f : Sem Flow) | .error e => .raise e).onRaise (cameBack X.env)).wrap K J gd lv) none (gd false) (lv []) c p [] :: fs) s := by
    intro m
    induction m using Nat.strongRecOn with
    | ind m ih =>
      intro i n ys s₀ s σ H hn w hI st fr
      have ee : ∀ (n : Nat) (s₀ : Shared) (x : Value) (s' : Shared), X.xe x s' → Seg (model X.prog X.w) A R (GY X S) n s₀ (.forLoop tg (.ref it) body [] X.env) (outE X.env x)
          (.ret (fun r => ((match r with | .ok f => (.pure f : Sem Flow) | .error e => .raise e).onRaise (cameBack X.env)).wrap K J gd lv) none (gd false) (lv []) c p [] :: fs) s' := fun n s₀ x s' hx => by
        refine seg_wrap ?_
        rw [(gl _).over]
        refine wpAny_bind (wpAny_mono (hp x s' hx) (fun _ s'' hcb => wpAny_theTreesLotGoes ?_) fun y s'' hcb => ?_)
        · exact seg_leaf (.error x) (seg_cameBack gc k hcb)
        · exact seg_leaf (.error y) (seg_cameBack gc k hcb)
      refine seg_forLoopG ?_
      rw [(gl _).over]
      obtain ⟨acc, cc, r, I⟩ := hI
      rcases turn i m ys σ H w with ⟨stop, qn⟩ | ⟨go, N, hN, step⟩
      · refine wpAny_mono (T.done X rfl rfl rfl hc i _ s σ H X.xe I (stat fr) st stop) (fun r' s4 h4 => ?_) fun x s' hx => ee n s₀ x s' hx
        obtain ⟨hr, I4⟩ := h4
        subst hr
        exact seg_blockNil rfl (seg_leaf (.ok .next) (k.ok n ys s₀ s4 .next hn ⟨σ, H, ⟨acc, cc, r, I4⟩, qn⟩))
      · refine wpAny_mono (T.item X rfl rfl rfl hc i _ s σ H X.xe I (stat fr) st go) (fun r' s4 h4 => ?_) fun x s' hx => ee n s₀ x s' hx
        obtain ⟨u, hr, h4⟩ := h4
        subst hr
        refine wpAny_mono h4 (fun _ s5 h5 => ?_) fun x s' hx => ee n s₀ x s' hx
        obtain ⟨x, H5, I5, r5, y5, st5, fr5⟩ := h5
        have I5' := I5.pinned (stat fr5) (T.obj _ _ st5)
        refine wpAny_mono (hg.run _ s5 σ H5 x u _ I5' r5 (step x H5 y5)) (fun _ s6 h6 => ?_) fun x s' hx => ee n s₀ x s' hx
        obtain ⟨σ6, H6, I6, q6⟩ := h6
        have gb : GC X S (ip ++ pinsAt fp s5.heap) A (.forLoop tg (.ref it) body [] X.env) (.ret (fun r => ((match r with | .ok f => (.pure f : Sem Flow) | .error e => .raise e).onRaise (cameBack X.env)).wrap K J gd lv) none (gd false) (lv []) c p [] :: fs) id :=
          { gl _ with ip := fun q hq => (by
              rcases List.mem_append.mp hq with hq | hq
              · exact gc.ip q hq
              · exact nS _ (of_pinsAt hq).1) }
        have unp : ∀ {ys' : List V} {σ' : L2.St} {H' : Hp} {s' : Shared}, GI X S (ip ++ pinsAt fp s5.heap) ys' σ' H' s' → GI X S ip ys' σ' H' s' ∧ tn (i + 1) s'.heap ∧ ∀ b ∈ fp, H' b = none := fun {ys' σ' H' s'} h => by
          obtain ⟨a', c', r', I'⟩ := h
          have I2' : Inv X (((S, lstObj a' c') :: ip) ++ pinsAt fp s5.heap) σ' H' s' := I'
          refine ⟨⟨a', c', r', I2'.unpinned⟩, T.keep _ _ _ st5 fun b hb o e => (I2'.pin (b, o) (List.mem_append_right _ (List.mem_append_right _ (mem_pinsAt hb e)))).1, fun b hb => ?_⟩
          obtain ⟨o, e, d⟩ := T.obj _ _ st5 b hb
          exact (I2'.pin (b, o) (List.mem_append_right _ (List.mem_append_right _ (mem_pinsAt hb e)))).2.1
        refine hb.run A S (ip ++ pinsAt fp s5.heap) R n ys s₀ _ _ _ _ id id s6 σ6 H6 { D with nx := N, ct := N, bk := D.nx } gb hn ⟨fun n' ys' s₀' s7 f hn' hs => ?_, fun n' s₀' x s7 hx => ee n' s₀' x s7 hx⟩ ⟨acc, cc, r, I6⟩ q6
        cases f with
        | next =>
          obtain ⟨σ7, H7, I7, n7⟩ := hs
          obtain ⟨m', hm, w7⟩ := hN ys' σ7 H7 n7
          obtain ⟨g7, t7, f7⟩ := unp I7
          exact seg_again rfl (ih m' hm (i + 1) n' ys' s₀' s7 σ7 H7 hn' w7 g7 t7 f7)
        | cont =>
          obtain ⟨σ7, H7, I7, n7⟩ := hs
          obtain ⟨m', hm, w7⟩ := hN ys' σ7 H7 n7
          obtain ⟨g7, t7, f7⟩ := unp I7
          exact seg_again rfl (ih m' hm (i + 1) n' ys' s₀' s7 σ7 H7 hn' w7 g7 t7 f7)
        | brk =>
          obtain ⟨σ7, H7, I7, n7⟩ := hs
          exact seg_leaf (.ok .next) (k.ok n' ys' s₀' s7 .next hn' ⟨σ7, H7, (unp I7).1, n7⟩)
        | ret v =>
          obtain ⟨v7, σ7, H7, I7, r7, n7⟩ := hs
          exact seg_leaf (.ok (.ret v)) (k.ok n' ys' s₀' s7 (.ret v) hn' ⟨v7, σ7, H7, (unp I7).1, r7, n7⟩)
  exact loop m0 0 n ys s₀ s2 σ H2 hn w0 ⟨acc, cc, r, I2⟩ st2 fun b hb => (f2 b hb).1
end Co

set_option Elab.async false
set_option linter.all false
set_option maxRecDepth 100000
set_option maxHeartbeats 4000000
namespace Co
open PySem PySem.Spec PyProof.Rows GenW L2
/-! ### calls by name, of defs and of generator defs -/
abbrev kvE (ks : List Str) : Prop := True
structure CdK (P : Program) (w : World) (K : PySem.W.Frag) (mg : Str → Option Value) (base : Heap) (k : Nat) (x : Str) (n : Nat) (ks : List Str) (sp : Sp) : Prop where
  ex : ∃ (f : Addr) (fd : FuncData) (ps : List Str), FnOk P w K mg base CX0 k f fd ps sp ∧ mg x = some (.ref f) ∧ PySem.W.keepIn K (.ref f) = true ∧ KBn K fd ps n ks (fun us ws => us ++ ws) (fun vs zs => vs ++ zs)
structure GCdK (P : Program) (w : World) (K : PySem.W.Frag) (mg : Str → Option Value) (base : Heap) (k : Nat) (x : Str) (n : Nat) (ks : List Str) (sp : SpG) : Prop where
  ex : ∃ (f : Addr) (fd : FuncData) (ps : List Str), GFn P w K mg base k f fd ps sp ∧ mg x = some (.ref f) ∧ PySem.W.keepIn K (.ref f) = true ∧ KBn K fd ps n ks (fun us ws => us ++ ws) (fun vs zs => vs ++ zs)
def tCK (n m : Nat) (sp : Sp) (t tk : TA) : TE := fun σ H Q => t σ H fun vs H1 => tk σ H1 fun zs H2 => vs.length = n ∧ zs.length = m ∧ sp (vs ++ zs) H2 Q E0
def tGK (n m : Nat) (sp : SpG) (t tk : TA) : TGen := fun σ H cont => t σ H fun vs H1 => tk σ H1 fun zs H2 => vs.length = n ∧ zs.length = m ∧ sp (vs ++ zs) H2 cont E0
section
variable {X : Cx} {k j n : Nat} {x : Str} {ks : List Str} {p pos : Pos} {e : Expr} {es : List Expr} {kws : List Keyword} {t tk : TA}
theorem pe_cdK {sp : Sp} (c : CdK X.prog X.w X.K X.mg X.base k x n ks sp) (hr : Room j X.A) (hk : k ≤ j) (hg : Gl X x) (ha : PA X (e :: es) t) (hkw : PK X kws tk)
    (hall : (backToKw pos (keywordEach kws X.env)).all (·.1.isSome) = true := by rfl) (hks : (backToKw pos (keywordEach kws X.env)).filterMap (·.1) = ks := by rfl)
    (hdb : (x == ("__debug__" : Str)) = false := by decide) (he : starEach (e :: es) X.env = (false, eval e X.env) :: starEach es X.env := by rfl)
    (hpl : ((backTo pos (starEach (e :: es) X.env)).any (·.1) || (backToKw pos (keywordEach kws X.env)).any (·.1.isNone)) = false := by rfl) :
    PE X (.Call (.Name x p) (e :: es) kws pos) (tCK n ks.length sp t tk) := by
  obtain ⟨f, fd, ps, F, hm, kp, b⟩ := c.ex
  exact pe_callN (E := E0) F (hr.mono hk) hg hm kp b pass0 ha hkw hall hks hdb he hpl
theorem run_gfnK {f : Addr} {fd : FuncData} {ps : List Str} {sp : SpG} {pins : List (Addr × Obj)} {σ : L2.St} {H : Hp} {s : Shared} {us ws : List Value} {vs zs : List V} {cont : List V → Hp → Prop} {E : XK} {E1 : Value → Shared → Prop} (F : GFn X.prog X.w X.K X.mg X.base k f fd ps sp) (hr : Room k X.A)
    (hb : KBn X.K fd ps n ks (fun us ws => us ++ ws) (fun vs zs => vs ++ zs)) (I : Inv X pins σ H s) (r : Vals vs us) (rz : Vals zs ws) (l1 : vs.length = n) (l2 : zs.length = ks.length) (h : sp (vs ++ zs) H cont E) :
    wpAny (model X.prog X.w) X.A (call (.ref f) us (ks.zip ws)) (fun u s' => ∃ H1 sc ex, Inv X pins σ H1 sc ∧ ExOk X pins ex ∧ GMade X.prog X.w k X.stack H1 sc ex cont E u s') E1 s := by
  refine wpAny_call (codeAny_mono (F.run X.A X.stack s H ⟨us, ks.zip ws⟩ (us ++ ws) (vs ++ zs) cont E hr I.env0 (hb.to s us ws I.kIn (r.length.symm.trans l1) (rz.length.symm.trans l2)) (hb.rel r rz) h) fun r s' hq => ?_)
  cases r with
  | error e => exact False.elim hq
  | ok fl =>
    cases fl with
    | ret u => exact ⟨H, s, [], I, .nil, hq⟩
    | next => exact False.elim hq
    | brk => exact False.elim hq
    | cont => exact False.elim hq
theorem pgen_cdK {sp : SpG} (c : GCdK X.prog X.w X.K X.mg X.base k x n ks sp) (hr : Room k X.A) (hg : Gl X x) (ha : PA X (e :: es) t) (hkw : PK X kws tk)
    (hall : (backToKw pos (keywordEach kws X.env)).all (·.1.isSome) = true := by rfl) (hks : (backToKw pos (keywordEach kws X.env)).filterMap (·.1) = ks := by rfl)
    (hdb : (x == ("__debug__" : Str)) = false := by decide) (he : starEach (e :: es) X.env = (false, eval e X.env) :: starEach es X.env := by rfl)
    (hpl : ((backTo pos (starEach (e :: es) X.env)).any (·.1) || (backToKw pos (keywordEach kws X.env)).any (·.1.isNone)) = false := by rfl) :
    PGen X k (.Call (.Name x p) (e :: es) kws pos) (tGK n ks.length sp t tk) E0 := by
  obtain ⟨f, fd, ps, F, hm, kp, b⟩ := c.ex
  refine ⟨fun pins s σ H cont I h => ?_⟩
  refine wpAny_Call_Name_kw (ld_glob I hg hm ?_ hdb)
  refine PySem.W.callWith_KW (h₀ := X.base) I.ok.mod.kin kp hall (thn (ha.run pos pins s σ H _ I h) fun us s1 ⟨vs, H1, I1, r, q⟩ => ?_) hpl he
  refine thn (hkw.run pos pins s1 σ H1 _ I1 q) fun ws s2 ⟨zs, H2, I2, rz, l1, l2, q2⟩ => ⟨I2.kIn, ?_⟩
  rw [hks]
  exact run_gfnK F hr b I2 r rz l1 l2 q2
theorem passE0 : Passes (CX X.prog X.w) X E0 := fun pins σ H s e s' I h => by
  obtain ⟨a, B, H', cls, d, _, _, _, _, _, _, _, w⟩ := h
  exact w.elim
theorem noStopE0 {K : PySem.W.Frag} : NoStop K E0 := fun cls d H h => h.elim
end
/-- a def with keyword-only parameters that stands -/
structure StK (K : PySem.W.Frag) (mg : Str → Option Value) (x : Str) (st : Stmt) (ps : List Str) (n : Nat) (ks : List Str) : Prop where
  ex : ∃ f fd, Fun K x x st f fd ∧ KBn K fd ps n ks (fun us ws => us ++ ws) (fun vs zs => vs ++ zs) ∧ mg x = some (.ref f)
theorem StK.cd {P : Program} {w : World} {K : PySem.W.Frag} {mg : Str → Option Value} {base : Heap} {x : Str} {st : Stmt} {k n : Nat} {ks N ps : List Str} {sp : Sp} (Z : StK K mg x st ps n ks) (S : FnScope N ps (defScope st)) (len : ∀ vs H Q E, sp vs H Q E → vs.length = ps.length)
    (hbody : ∀ (f : Addr) (cdv : Value) (A : Around) (outer : List Env) (s : Shared) (H : Hp) (vs : List V) (Q : VK) (E : XK), Room k (A.deeper (envOfC x (defScope st) s.heap.objs.size f cdv)) → sp vs H Q E →
      ∃ t, PSs (cxOf CX0 P w K mg base N x (defScope st) f cdv A outer s H E).nox (defBody st) t ∧ t { nx := fun _ H' => Q .non H', rt := Q } (start N vs) H) : CdK P w K mg base (k + 1) x n ks sp := by
  obtain ⟨f, fd, F, b, hm⟩ := Z.ex
  exact ⟨⟨f, fd, ps, F.ok S len (hbody f), hm, F.kp, b⟩⟩
theorem StK.gcd {P : Program} {w : World} {K : PySem.W.Frag} {mg : Str → Option Value} {base : Heap} {x : Str} {st : Stmt} {k n : Nat} {ks N ps : List Str} {sp : SpG} (Z : StK K mg x st ps n ks) (S : GScope N ps (defScope st)) (len : ∀ vs H Q E, sp vs H Q E → vs.length = ps.length)
    (hbody : ∀ (f : Addr) (cdv : Value) (A : Around) (outer : List Env) (s : Shared) (H : Hp) (vs : List V) (Q : List V → Hp → Prop) (E : XK) (pn : List (Addr × Obj)), Room k (A.deeper (envOfC x (defScope st) s.heap.objs.size f cdv)) → sp vs H Q E →
      ∃ t, GSs (gcxOf P w K mg base N x (defScope st) f cdv A outer s H E pn) (defBody st) t ∧ t { nx := fun ys _ H' => Q ys H', rt := fun ys v H' => v = .non ∧ Q ys H' } [] (start N vs) H) : GCdK P w K mg base (k + 1) x n ks sp := by
  obtain ⟨f, fd, F, b, hm⟩ := Z.ex
  obtain ⟨oc, od, kV, doc, pm, an, cdv, ct, osl, rfl, lk, hcd⟩ := F.ex
  exact ⟨⟨f, _, ps, gfn_of lk hcd S len (hbody f cdv), hm, F.kp, b⟩⟩
theorem mkStK {K : PySem.W.Frag} {mg : Str → Option Value} {x : Str} {st : Stmt} {ps ks : List Str} {n : Nat} {h : Heap} {f : Addr} {oc : Value} {od an : Option Addr} {osl : Array (Option Value)} {kV doc pm cdv ct : Value} (X : K.In h) (G : h.Ns mainGlobals mg)
    (a : PySem.W.nsIn K mainGlobals x = some (some (.ref f))) (l : K.lookup f = some ⟨oc, od, .func (PySem.W.fnOf x x (defArgs st) (defBody st) (defScope st) .none kV doc pm an cdv ct), osl⟩) (c : PySem.W.codeIn K cdv x = true) (k : PySem.W.keepIn K (.ref f) = true)
    (hb : ∀ (kV doc pm : Value) (an : Option Addr) (cdv ct : Value) (us ws : List Value), us.length = n → ws.length = ks.length → bindArgs (PySem.W.fnOf x x (defArgs st) (defBody st) (defScope st) .none kV doc pm an cdv ct) ⟨us, ks.zip ws⟩ = pure (ps.zip (us ++ ws))) : StK K mg x st ps n ks :=
  ⟨f, _, fun_mk (st := st) l c k, ⟨fun s us ws _ h1 h2 => .of_eq (hb kV doc pm an cdv ct us ws h1 h2), fun r rz => r.append rz⟩, PySem.W.mg_of X G a⟩
/-! readings -/
theorem w_cK {n m : Nat} {sp : Sp} {t tk : TA} {σ : L2.St} {H : Hp} {Q : VK} (q : t σ H fun vs H1 => tk σ H1 fun zs H2 => vs.length = n ∧ zs.length = m ∧ sp (vs ++ zs) H2 Q E0) : tCK n m sp t tk σ H Q := q
theorem w_gK {n m : Nat} {sp : SpG} {t tk : TA} {σ : L2.St} {H : Hp} {Q : List V → Hp → Prop} (q : t σ H fun vs H1 => tk σ H1 fun zs H2 => vs.length = n ∧ zs.length = m ∧ sp (vs ++ zs) H2 Q E0) : tGK n m sp t tk σ H Q := q
theorem w_listG {tg : TGen} {σ : L2.St} {H : Hp} {Q : VK} (q : tg σ H fun out H2 => ∀ p, H2 p = none → Q (.ref p) (upd H2 p (.lst out))) : tListG tg σ H Q := q
section
variable {D : GEnds} {ys : List V} {σ : L2.St} {H : Hp} {t u : TGn} {tp : TS} {te : TE}
theorem w_gThen (q : t { D with nx := fun ys' σ' H' => u D ys' σ' H' } ys σ H) : tGThen t u D ys σ H := q
theorem w_gPlain (q : tp { nx := D.nx ys, rt := D.rt ys, bk := D.bk ys, ct := D.ct ys } σ H) : tPlain tp D ys σ H := q
theorem w_g0 (q : D.nx ys σ H) : tG0 D ys σ H := q
theorem w_gYield (h : ys.length < sizeLine) (q : te σ H fun x H1 => D.nx (ys ++ [x]) σ H1) : tGYield te D ys σ H := ⟨h, q⟩
end
end Co
namespace Co
open PySem PySem.Spec PyProof.Rows GenW L2
section
variable {wi : TI} {g : TG} {tb : TGn} {D : GEnds} {ys : List V} {σ : L2.St} {H : Hp}
def kForG (g : TG) (tb : TGn) (D : GEnds) (ys : List V) (σ : L2.St) : It → Hp → Prop := fun J H1 => ∃ W : Nat → Nat → List V → L2.St → Hp → Prop, (∃ m, W 0 m ys σ H1) ∧ ∀ i m ys σ H, W i m ys σ H →
  (J.stop i H ∧ D.nx ys σ H) ∨ (J.go i H ∧ ∃ N : List V → L2.St → Hp → Prop, (∀ ys' σ' H', N ys' σ' H' → ∃ m', m' < m ∧ W (i + 1) m' ys' σ' H') ∧ ∀ x H', J.yld i H x H' → g x σ H' fun σ2 H2 => tb { D with nx := N, ct := N, bk := D.nx } ys σ2 H2)
theorem w_forG (q : wi σ H (kForG g tb D ys σ)) : tGFor wi g tb D ys σ H := q
theorem w_forGR {j : Int} (n : Nat) (Pv : Nat → List V → L2.St → Hp → Prop) (hn : j.toNat = n) (hj : n < 4611686018427387904 ∧ -4611686018427387904 ≤ j) (h0 : Pv 0 ys σ H)
    (hs : ∀ i ys σ H, i < n → Pv i ys σ H → g (.int (i : Int)) σ H fun σ2 H2 => tb { D with nx := Pv (i + 1), ct := Pv (i + 1), bk := D.nx } ys σ2 H2) (hd : ∀ ys σ H, Pv n ys σ H → D.nx ys σ H) : kR1 (kForG g tb D ys σ) [.int j] H := by
  refine ⟨j, rfl, by show -4611686018427387904 ≤ j; omega, by show j < 4611686018427387904; omega, ?_⟩
  subst hn
  refine ⟨fun i m ys σ H => m = j.toNat - i ∧ i ≤ j.toNat ∧ Pv i ys σ H, ⟨j.toNat, by simp, Nat.zero_le _, h0⟩, ?_⟩
  rintro i m ys σ H ⟨rfl, hi, p⟩
  by_cases hlt : i < j.toNat
  · refine .inr ⟨hlt, Pv (i + 1), fun ys' σ' H' p' => ⟨j.toNat - (i + 1), by omega, rfl, hlt, p'⟩, fun x H' y => ?_⟩
    obtain ⟨e, y⟩ := y
    subst e y
    rw [Int.zero_add]
    exact hs i ys σ _ hlt p
  · have e : i = j.toNat := by omega
    subst e
    exact .inl ⟨Nat.le_refl _, hd ys σ H p⟩
end
end Co

set_option Elab.async false
set_option linter.all false
set_option maxRecDepth 100000
set_option maxHeartbeats 4000000
namespace Co
open PySem PySem.Spec PyProof.Rows L2
/-! ### words as eight hexadecimal signs -/
/-- the code of a hexadecimal sign -/
def hxd (n : Nat) : Nat := (Nat.digitChar (n % 16)).toNat
/-- the last k hexadecimal signs of a number -/
def hxs : Nat → Nat → List Nat
  | 0, _ => []
  | k + 1, n => hxd (n / 16 ^ k) :: hxs k n
theorem hxs_len (n : Nat) : ∀ k, (hxs k n).length = k
  | 0 => rfl
  | k + 1 => by show (hxs k n).length + 1 = _; rw [hxs_len n k]
theorem hxs_back : ∀ k n, hxs (k + 1) n = hxs k (n / 16) ++ [hxd n]
  | 0, n => by simp [hxs]
  | k + 1, n => by
    rw [show hxs (k + 1 + 1) n = hxd (n / 16 ^ (k + 1)) :: hxs (k + 1) n from rfl, hxs_back k n, show hxs (k + 1) (n / 16) = hxd (n / 16 / 16 ^ k) :: hxs k (n / 16) from rfl, Nat.div_div_eq_div_mul, Nat.pow_succ, Nat.mul_comm (16 ^ k) 16]
    rfl
theorem hxs_zero : ∀ k, hxs k 0 = List.replicate k 48
  | 0 => rfl
  | k + 1 => by rw [show hxs (k + 1) 0 = hxd (0 / 16 ^ k) :: hxs k 0 from rfl, hxs_zero k, Nat.zero_div, List.replicate_succ]; rfl
theorem hxs_digits : ∀ k n, n < 16 ^ k → 1 ≤ k → (Nat.toDigits 16 n).length ≤ k ∧ List.replicate (k - (Nat.toDigits 16 n).length) 48 ++ (Nat.toDigits 16 n).map Char.toNat = hxs k n
  | 0, _, _, h => by omega
  | k + 1, n, hn, _ => by
    rw [Nat.toDigits_eq_if (by decide)]
    by_cases h : n < 16
    · rw [if_pos h]
      refine ⟨by simp, ?_⟩
      rw [hxs_back, Nat.div_eq_of_lt h, hxs_zero]
      show List.replicate (k + 1 - 1) 48 ++ [(Nat.digitChar n).toNat] = _
      rw [Nat.add_sub_cancel]
      unfold hxd
      rw [Nat.mod_eq_of_lt h]
    · rw [if_neg h]
      have hk : 1 ≤ k := by
        rcases k with _ | k
        · exact absurd (by simpa using hn) h
        · omega
      have hn' : n / 16 < 16 ^ k := by rw [Nat.pow_succ] at hn; omega
      obtain ⟨l, e⟩ := hxs_digits k (n / 16) hn' hk
      refine ⟨by rw [List.length_append]; simpa using l, ?_⟩
      rw [hxs_back, ← e, List.length_append, List.map_append, List.append_assoc]
      congr 2
      simp
def hexT (n : Nat) : Str := ⟨(hxs 8 n).toArray⟩
def spec08x : Str := ⟨#[48, 56, 120]⟩
def f08x : Builtin.Float.FormatSpec := { fill := 48, align := 61, width := some 8, type := some 120 }
section
variable {prog : Program} {w : World} {A : Around} {E : Value → Shared → Prop} {s : Shared} {a : Int} {t : Tok} {Q : Value → Shared → Prop}
theorem hex_text (h0 : 0 ≤ a) (h1 : a < 4294967296) : intField' f08x (decide (a < 0)) [] ((Nat.toDigits 16 a.natAbs).map fun c => (if (120 : Nat) == 88 then c.toUpper else c).toNat) [] 4 = hexT a.toNat := by
  have hneg : decide (a < 0) = false := decide_eq_false (by omega)
  have hl := tDigits_len_ge 16 a.natAbs
  have hd : ((Nat.toDigits 16 a.natAbs).map fun c => (if (120 : Nat) == 88 then c.toUpper else c).toNat).isEmpty = false := by
    cases h : Nat.toDigits 16 a.natAbs with
    | nil => rw [h] at hl; simp at hl
    | cons _ _ => rfl
  rw [hneg, intField'_zero_nonneg f08x _ 4 rfl rfl hd rfl rfl, List.length_map]
  have e : a.natAbs = a.toNat := by omega
  have := (hxs_digits 8 a.toNat (by omega) (by decide)).2
  rw [e]
  exact congrArg (fun z : List Nat => (⟨z.toArray⟩ : Str)) this
theorem field_hex (h0 : 0 ≤ a) (h1 : a < 4294967296) (h : ∀ t' k, Q (.str (hexT a.toNat) t') { s with toks := k }) : wpAny (model prog w) A (formatField (.int a t) spec08x) Q E s := by
  refine PySem.W.KXf.field_int (spec' := spec08x) rfl (by decide +kernel) (by decide +kernel) (fun u => ?_) h
  apply PySem.W.KPc.meets_of
  intro prog w A s Q E h
  unfold Builtin.«int.__format__»
  refine wpAny_bind (wpAny_of_eq (a := (_, _)) rfl ?_)
  refine wpAny_bind (wpAny_of_eq (a := _) rfl ?_)
  kxf_if
  refine wpAny_bind (wpAny_typeNameOf (T := "str") (typeIs_str _ _ _) (by decide) fun _ => ?_)
  refine wpAny_bind (wpAny_of_eq (a := some _) rfl ?_)
  kxf_if
  kxf_if
  refine wpAny_bind (wpAny_typeNameOfCut_int ?_)
  rw [show Builtin.Float.parseFormatSpec spec08x.cps.toList "int" 62 = .ok f08x by rfl]
  (repeat kxf_if)
  exact PySem.W.KXf.ret_text (hex_text h0 h1) (Nat.le_trans (Nat.le_of_eq (congrArg PySem.Str.length (hex_text h0 h1))) (by show (hxs 8 a.toNat).toArray.size ≤ _; rw [List.size_toArray, hxs_len]; decide)) h
end
section
variable {X : Cx}
/-- {x:08x} of a word -/
def tHex (te : TE) : TE := fun σ H Q => te σ H fun x H1 => ∃ i : Int, x = .int i ∧ 0 ≤ i ∧ i < 4294967296 ∧ Q (.str (hexT i.toNat)) H1
theorem pe_hex {e : Expr} {te : TE} {j : Nat} {p1 p2 p3 : Pos} (he : PE X e te) : PE X (.FormattedValue e (-1) (some (.JoinedStr [.Constant (.str spec08x) j p1] p2)) p3) (tHex te) := by
  refine ⟨fun pins s σ H Q I h => ?_⟩
  refine wpAny_FormattedValue_spec (thn (he.run pins s σ H _ I h) fun v s1 hv => ?_)
  obtain ⟨x, H1, I1, r1, i, rfl, h0, h1, q⟩ := hv
  obtain ⟨t, rfl⟩ := r1
  refine thn ((pe_joined1 (pe_str (x := spec08x) (j := j) (pos := p1)) (pos := p2)).run pins s1 σ H1 (fun x H' => x = .str spec08x ∧ H' = H1) I1 ⟨rfl, rfl⟩) fun r s2 hr => ?_
  obtain ⟨y, H2, I2, r2, rfl, rfl⟩ := hr
  obtain ⟨u, rfl⟩ := r2
  exact ⟨_, u, rfl, field_hex h0 h1 fun t' k => ⟨.str (hexT i.toNat), H2, I2.tok _, ⟨t', rfl⟩, q⟩⟩
theorem w_hex {te : TE} {σ : L2.St} {H : Hp} {Q : VK} (q : te σ H fun x H1 => ∃ i : Int, x = .int i ∧ 0 ≤ i ∧ i < 4294967296 ∧ Q (.str (hexT i.toNat)) H1) : tHex te σ H Q := q
end

/-! ### texts that are put together -/
def kFmt (Q : VK) : VK := fun x H1 => (∃ y : Str, x = .str y ∧ y.length ≤ sizeLine ∧ Q (.str y) H1) ∨ ∃ i : Int, x = .int i ∧ i.natAbs.log2 < 1920 ∧ Q (.str (toString i)) H1
/-- an int as a text -/
def dcT (i : Int) : Str := toString i
theorem dcT_len {i : Int} (h : i.natAbs < 4294967296) : (dcT i).length ≤ 11 := by
  have e := int_text_length_le10 (a := i) (k := 10) (by decide) (by omega)
  unfold dcT
  rw [PySem.ofString_length]
  omega
theorem log_small {i : Int} (h : i.natAbs < 4294967296) : i.natAbs.log2 < 1920 := by
  rcases Nat.eq_zero_or_pos i.natAbs with e | e
  · rw [e]; decide
  · exact Nat.lt_trans ((Nat.log2_lt (by omega)).mpr (show i.natAbs < 2 ^ 32 by omega)) (by decide)
def tJ (ts : List TE) : TE := fun σ H Q => tJs ts Str.empty σ H fun out H1 => Q (.str out) H1
theorem pe_J {X : Cx} {v1 v2 : Expr} {rest : List Expr} {ts : List TE} {pos : Pos} (h : PJ X (v1 :: v2 :: rest) ts) : PE X (.JoinedStr (v1 :: v2 :: rest) pos) (tJ ts) := pe_joined h
def kJs (acc : Str) (ts : List TE) (σ : L2.St) (Q : Str → Hp → Prop) : VK := fun x H1 => ∃ y : Str, x = .str y ∧ (acc ++ y).length ≤ sizeLine ∧ tJs ts (acc ++ y) σ H1 Q
def rStrQ : List V → Hp → VK → Prop := fun xs H Q => ∃ i, xs = [.int i] ∧ i.natAbs.log2 < 1920 ∧ Q (.str (toString i)) H
theorem call_strQ {X : Cx} : CallR X (.type "str") rStrQ := call_str_int
def rJoinQ (K : PySem.W.Frag) : V → List V → Hp → VK → Prop := fun x xs H Q => ∃ a p, ∃ ys : List Str, x = .str a ∧ xs = [.ref p] ∧ (SqL K H p (ys.map V.str) ∨ SqT K H p (ys.map V.str)) ∧
    (ys.map (·.length)).sum + ys.length * a.length ≤ 16777216 ∧ Q (.str (Txt.join a ys)) H
theorem mt_joinQ {X : Cx} : MtR X "str.join" (rJoinQ X.K) := mt_join
theorem cat_len (a b : Str) : (a ++ b).length = a.length + b.length := by
  show (a ++ b).cps.size = a.cps.size + b.cps.size
  rw [Str.cps_append, Array.size_append]
section
variable {te : TE} {σ : L2.St} {H : Hp} {Q : VK}
theorem w_fmt (q : te σ H (kFmt Q)) : tFmt te σ H Q := q
theorem w_kFmtS {y : Str} (h : y.length ≤ sizeLine) (q : Q (.str y) H) : kFmt Q (.str y) H := .inl ⟨y, rfl, h, q⟩
theorem w_kFmtI {i : Int} (h : i.natAbs < 4294967296) (q : Q (.str (dcT i)) H) : kFmt Q (.int i) H := .inr ⟨i, rfl, log_small h, q⟩
theorem w_J {ts : List TE} (q : tJs ts Str.empty σ H fun out H1 => Q (.str out) H1) : tJ ts σ H Q := q
theorem w_Js {t : TE} {ts : List TE} {acc : Str} {R : Str → Hp → Prop} (q : t σ H (kJs acc ts σ R)) : tJs (t :: ts) acc σ H R := q
theorem w_Js0 {acc : Str} {R : Str → Hp → Prop} (q : R acc H) : tJs [] acc σ H R := q
theorem w_kJs {ts : List TE} {acc y : Str} {R : Str → Hp → Prop} (h : (acc ++ y).length ≤ sizeLine) (q : tJs ts (acc ++ y) σ H R) : kJs acc ts σ R (.str y) H := ⟨y, rfl, h, q⟩
theorem w_strI {i : Int} (h : i.natAbs < 4294967296) (q : Q (.str (dcT i)) H) : rStrQ [.int i] H Q := ⟨i, rfl, log_small h, q⟩
theorem w_joinL {K : PySem.W.Frag} {a : Str} {p : Addr} (ys : List Str) (h : SqL K H p (ys.map V.str)) (hz : (ys.map (·.length)).sum + ys.length * a.length ≤ 16777216) (q : Q (.str (Txt.join a ys)) H) : rJoinQ K (.str a) [.ref p] H Q := ⟨a, p, ys, rfl, rfl, .inl h, hz, q⟩
end
section
variable {g : TG} {tb : TS} {D : Ends} {σ : L2.St} {H : Hp}
theorem w_forR2 {j : Int} (n : Nat) (Pv : Nat → L2.St → Hp → Prop) (hn : (j - 1).toNat = n) (hj : n < 4611686018427387903 ∧ -4611686018427387904 ≤ j) (h0 : Pv 0 σ H)
    (hs : ∀ i σ H, i < n → Pv i σ H → g (.int (1 + (i : Int))) σ H fun σ2 H2 => tb { D with nx := Pv (i + 1), ct := Pv (i + 1), bk := D.nx } σ2 H2) (hd : ∀ σ H, Pv n σ H → D.nx σ H) : kR2 (kFor g tb D σ) [.int 1, .int j] H := by
  refine ⟨1, j, rfl, ⟨by decide, by decide, by show -4611686018427387904 ≤ j; omega, by show j < 4611686018427387904; omega⟩, ?_⟩
  subst hn
  exact for_range (lo := 1) (n := (j - 1).toNat) Pv h0 (fun i σ H hi p => hs i σ H hi p) hd
end
end Co

set_option Elab.async false
set_option linter.all false
set_option maxRecDepth 100000
set_option maxHeartbeats 4000000
namespace Co
open PySem PySem.Spec PyProof.Rows L2
/-! ### sorted(rows) of pairs of an int and a text -/
/-- the int that a pair begins with -/
def kF (H : Hp) : V → Int
  | .ref t => match H t with
    | some (.tup (.int i :: _)) => i
    | _ => 0
  | _ => 0
abbrev shp : Nat → Bool := fun i => i == 1
theorem tups_ex {h : Heap} : ∀ {vs : List Value}, (∀ v ∈ vs, ∃ f, TupOf h shp v f) → ∃ fs, TupsOf h shp vs fs
  | [], _ => ⟨[], .nil⟩
  | v :: vs, h => by
    obtain ⟨f, hf⟩ := h v List.mem_cons_self
    obtain ⟨fs, hr⟩ := tups_ex fun u hu => h u (List.mem_cons_of_mem _ hu)
    exact ⟨f :: fs, .cons hf hr⟩
def rSortedT (K : PySem.W.Frag) : List V → Hp → VK → Prop := fun vs H Q => ∃ a xs, vs = [V.ref a] ∧ SqL K H a xs ∧ (∀ x ∈ xs, ∃ t i z, x = V.ref t ∧ H t = some (.tup [.int i, .str z])) ∧
  ∀ ys p, ys.Perm xs → (ys.map (kF H)).Pairwise (· ≤ ·) → H p = none → Q (.ref p) (upd H p (.lst ys))
theorem cr_sortedT {X : Cx} : CallR X (.builtin "sorted") (rSortedT X.K) := by
  intro pins s σ H vs us Q I r h
  obtain ⟨a, xs, rfl, hs, hx, q⟩ := h
  obtain ⟨its, rv, hl, hz⟩ := I.list hs
  obtain ⟨u, rfl, ru⟩ := vals1 r
  obtain rfl : u = Value.ref a := ru
  obtain ⟨e1, e2⟩ := refs_back rv fun x m => by
    obtain ⟨t, _, _, e, _⟩ := hx x m
    exact ⟨t, e⟩
  have each : ∀ v ∈ its, ∃ t i z o t1 t2 n, v = Value.ref t ∧ H t = some (.tup [.int i, .str z]) ∧ s.heap.get? t = some o ∧ o.cls = .type "tuple" ∧ o.data = .seq #[.int i t1, .str z t2] n := fun v hv => by
    obtain ⟨t, rfl⟩ := e2 v hv
    have hm : V.ref t ∈ xs := by rw [e1]; exact List.mem_map.mpr ⟨_, hv, rfl⟩
    obtain ⟨t', i, z, e, ht⟩ := hx _ hm
    cases e
    obtain ⟨_, its2, r2, o, ho, hc, n, hd⟩ := I.hok _ _ ht
    obtain ⟨u1, u2, rfl, ri, rj⟩ := vals2 r2
    obtain ⟨t1, rfl⟩ := ri
    obtain ⟨t2, rfl⟩ := rj
    exact ⟨t, i, z, o, t1, t2, n, rfl, ht, ho, hc, hd⟩
  have key : ∀ v ∈ its, ∃ y, G.tupKeyC s.heap shp v = some [Sum.inl (kF H (backV v)), Sum.inr y] := fun v hv => by
    obtain ⟨t, i, z, o, t1, t2, n, rfl, ht, ho, hc, hd⟩ := each v hv
    refine ⟨z.cps.toList, ?_⟩
    have ek : kF H (backV (.ref t)) = i := by
      show (match H t with | some (.tup (.int i :: _)) => i | _ => 0) = i
      rw [ht]
    rw [ek]
    unfold G.tupKeyC G.isTupObj
    simp only [ho, hc]
    rw [if_pos (by decide)]
    unfold tupKey
    simp only [ho, hd]
    rfl
  obtain ⟨fs, ht⟩ := tups_ex (h := s.heap) (vs := its) fun v hv => by
    obtain ⟨t, i, z, o, t1, t2, n, rfl, ht, ho, hc, hd⟩ := each v hv
    exact ⟨.int i t1, t, o, _, n, rfl, ho, hc, hd, rfl, fun _ => ⟨_, _, rfl⟩, fun e => absurd e (by decide)⟩
  refine G.sorted_tups (shape := shp) hl.isList ht (fun v hv => by obtain ⟨y, e⟩ := key v hv; exact ⟨_, e⟩) (by rw [← rv.length]; exact hz) fun st' hp hst _ => ?_
  have mem : ∀ p, p ∈ (arrOf st').toList → p.1 = p.2 ∧ p.1 ∈ its := fun p hp' => by
    have h2 : p ∈ (pairsOf its).toList := (Array.perm_iff_toList_perm.mp hp).mem_iff.mp hp'
    rw [pairsOf_toList] at h2
    exact mem_zip_self h2
  have sz : (arrOf st').size = its.length := by rw [hp.size_eq, pairsOf_size]
  obtain ⟨ep, he'⟩ := sortedAll_at s.heap its ((arrOf st').map (·.2))
  have ol : ((arrOf st').map (·.2)).toList = (arrOf st').toList.map (·.2) := Array.toList_map
  have om : ∀ u ∈ (arrOf st').toList.map (·.2), ∃ a, u = Value.ref a := fun u hu => by
    obtain ⟨p, hp', rfl⟩ := List.mem_map.mp hu
    obtain ⟨e, m⟩ := mem p hp'
    exact e2 _ (e ▸ m)
  have pm : (((arrOf st').toList.map (·.2)).map backV).Perm xs := by
    rw [e1]
    refine List.Perm.map _ ?_
    have := (Array.perm_iff_toList_perm.mp hp).map (·.2)
    rw [pairsOf_toList] at this
    have ez : (its.zip its).map (·.2) = its := by rw [List.map_snd_zip]; omega
    rw [ez] at this
    exact this
  have hlen : (((arrOf st').toList.map (·.2)).map backV).length ≤ sizeLine := by rw [pm.length_eq]; exact hz
  refine ⟨.ref _, upd H (s.heap.objs.size + 1) (.lst (((arrOf st').toList.map (·.2)).map backV)), I.laid (t' := s.toks) (fun _ _ => sortedAll_old) (Nat.le_succ _) ⟨hlen, ((arrOf st').map (·.2)).toList, ep, by rw [ol]; exact vals_back om, by rw [Array.toArray_toList]; exact he'⟩, rfl, q _ _ pm ?_ (I.hok.fresh (Nat.le_succ _))⟩
  rw [List.pairwise_iff_getElem]
  intro i j hi hj hij
  simp only [List.length_map, Array.length_toList] at hi hj
  have hK : ∀ k (hk : k < (arrOf st').size), ∃ y, KK (G.tupKindC s.heap shp) (arrOf st') k = [Sum.inl (kF H (backV (arrOf st')[k].2)), Sum.inr y] := fun k hk => by
    obtain ⟨e, m⟩ := mem (arrOf st')[k] (by simp)
    obtain ⟨y, ey⟩ := key _ m
    refine ⟨y, ?_⟩
    unfold KK
    rw [Array.getElem?_eq_getElem hk]
    show ((G.tupKeyC s.heap shp (arrOf st')[k].1).getD _) = _
    rw [ey, e]
    rfl
  obtain ⟨y1, k1⟩ := hK i hi
  obtain ⟨y2, k2⟩ := hK j hj
  have o := hst i j (Nat.le_of_lt hij) (by rw [pairsOf_size, ← sz]; exact hj)
  rw [k1, k2] at o
  have o2 := (lex_false.mp o).1
  have o3 : decide (kF H (backV (arrOf st')[j].2) < kF H (backV (arrOf st')[i].2)) = false := o2
  have o4 := of_decide_eq_false o3
  simp only [List.getElem_map, Array.getElem_toList]
  omega
end Co
namespace Co
open PySem PySem.Spec PyProof.Rows L2
/-! ### rows.count(row) of rows that are data: some number -/
def rCntD (K : PySem.W.Frag) : V → List V → Hp → VK → Prop := fun x xs H Q => ∃ (p : Addr) (ys : List V) (z : V) (d : PyData), x = .ref p ∧ xs = [z] ∧ SqL K H p ys ∧ (∀ y ∈ ys, ∃ e, Dp K H y e ∧ e.canLay0 = true) ∧ Dp K H z d ∧ d.canLay0 = true ∧ d.depth ≤ 8 ∧ ∀ n : Nat, Q (.int n) H
theorem vals_mem : ∀ {xs : List V} {us : List Value}, Vals xs us → ∀ u ∈ us, ∃ x ∈ xs, RelV x u
  | _, _, .nil, u, h => by cases h
  | x :: xs, _ :: us, .cons r t, u, h => by
    rcases List.mem_cons.mp h with rfl | h
    · exact ⟨x, List.mem_cons_self, r⟩
    · obtain ⟨y, hy, e⟩ := vals_mem t u h
      exact ⟨y, List.mem_cons_of_mem _ hy, e⟩
open Classical in
theorem mt_lcountD {X : Cx} (hu : X.A.units + 64 < cLine) : MtR X "list.count" (rCntD X.K) := by
  intro pins s σ H x xs v us Q I rx rxs h
  obtain ⟨p, ys, z, d, rfl, rfl, hs, hy, hz, cd, dd, q⟩ := h
  cases rx
  obtain ⟨u, rfl, ru⟩ := rxs.one
  obtain ⟨its, rv, ⟨⟨cls, dd', data, sl⟩, n, ho, hc, hdn, hd⟩, hlen⟩ := I.list hs
  simp only at hc hd
  subst hc hd
  obtain ⟨bs, r2⟩ := Dp.reads I d z u hz ru
  have ev : ∀ y ∈ its.toArray, ∃ b, SeqAt.EqAt X.A.in1 s y u b := fun y hm => by
    obtain ⟨y', hy', ry⟩ := vals_mem rv y (by simpa using hm)
    obtain ⟨e, he, ce⟩ := hy y' hy'
    obtain ⟨as, r1⟩ := Dp.reads I e y' y he ry
    exact ⟨_, SeqAt.eqAt_reads e d X.A.in1 s y u as bs r1 r2 ce cd (by show X.A.units + 1 + _ < cLine; omega)⟩
  let f : Value → Bool := fun y => if h : ∃ b, SeqAt.EqAt X.A.in1 s y u b then h.choose else false
  refine call_meets PySem.F.slot_list_count ⟨_, ho, rfl⟩ PySem.F.entry_list_count (PySem.F.args_list_count_2 _ _)
    (SeqAt.list_countAt p its.toArray n dd' sl u f) ⟨ho, fun y hm => ?_, ?_⟩
  · have h := ev y hm
    show SeqAt.EqAt _ _ y u (f y)
    have e : f y = h.choose := dif_pos h
    rw [e]
    exact h.choose_spec
  · exact ⟨.int (its.toArray.toList.countP f : Nat), H, I.tok _, ⟨s.toks, rfl⟩, q _⟩
theorem w_cntD {K : PySem.W.Frag} {p : Addr} {ys : List V} {z : V} {d : PyData} {H : Hp} {Q : VK} (h : SqL K H p ys) (hy : ∀ y ∈ ys, ∃ e, Dp K H y e ∧ e.canLay0 = true) (hz : Dp K H z d) (cd : d.canLay0 = true) (dd : d.depth ≤ 8) (q : ∀ n : Nat, Q (.int n) H) : rCntD K (.ref p) [z] H Q := ⟨p, ys, z, d, rfl, rfl, h, hy, hz, cd, dd, q⟩
theorem w_sortedT {K : PySem.W.Frag} {a : Addr} {xs : List V} {H : Hp} {Q : VK} (h : SqL K H a xs) (hx : ∀ x ∈ xs, ∃ t i z, x = V.ref t ∧ H t = some (.tup [.int i, .str z])) (q : ∀ ys p H', ys.Perm xs → (ys.map (kF H)).Pairwise (· ≤ ·) → H p = none → Same H H' → H' p = some (.lst ys) → Q (.ref p) H') : rSortedT K [.ref a] H Q :=
  ⟨a, xs, rfl, h, hx, fun ys p h1 h2 h3 => q ys p _ h1 h2 h3 (Same.new h3) upd_same⟩
theorem w_brk {D : Ends} {σ : L2.St} {H : Hp} (q : D.bk σ H) : tBreak D σ H := q
end Co

set_option Elab.async false
set_option linter.all false
set_option maxRecDepth 100000
set_option maxHeartbeats 4000000
namespace Co
open PySem PySem.Spec PyProof.Rows L2
theorem mt_lcountDK {X : Cx} {K' : PySem.W.Frag} (hK : X.K = K') (hu : X.A.units + 64 < cLine) : MtR X "list.count" (rCntD K') := by subst hK; exact mt_lcountD hu
theorem pe_bmK {X : Cx} {K' : PySem.W.Frag} {o e : Expr} {es : List Expr} {to : TE} {t : TA} {name : Str} {apos cpos : Pos} {T id : String} {r : V → List V → Hp → VK → Prop} (hK : X.K = K') (pa : PlainAttrs T) (slot : Slot T name id) (hty : typeOf (.builtin id) = pure (.type "method_descriptor")) (hm : MtR X id r) (ho : PE X o to) (ha : PA X (e :: es) t)
    (hbase : attributeBase o name X.env (eval o X.env) = eval o X.env := by rfl)
    (hfew : ((backTo cpos (starEach (e :: es) X.env)).all (fun x => !x.1) && (backToKw cpos (keywordEach [] X.env)).all (fun x => x.1.isSome)
      && decide ((e :: es).length + ([] : List Keyword).length + (if ([] : List Keyword).isEmpty then 0 else 1) < 30)) = true := by rfl)
    (hline : (apos.endLine == cpos.line) = true := by rfl) (hs : starEach (e :: es) X.env = (false, eval e X.env) :: starEach es X.env := by rfl) (hplain : (backTo cpos (starEach es X.env)).any (·.1) = false := by rfl) :
    PE X (.Call (.Attribute o name apos) (e :: es) [] cpos) (tBM K' T r to t) := by subst hK; exact pe_bm pa slot hty hm ho ha hbase hfew hline hs hplain
/-! ### texts whose signs are all signs; lists of texts as data -/
theorem sO_cat {a b : Str} (h1 : PyData.strOk a = true) (h2 : PyData.strOk b = true) : PyData.strOk (a ++ b) = true := by
  unfold PyData.strOk at *
  rw [Str.cps_append, Array.all_append, h1, h2]
  rfl
theorem sO_char (c : Char) : c.toNat < 0x110000 := by
  rcases c.valid with h | h
  · have : c.toNat < 0xd800 := h
    omega
  · exact h.2
theorem sO_list {l : List Nat} (h : ∀ x ∈ l, x < 0x110000) : PyData.strOk ⟨l.toArray⟩ = true := by
  unfold PyData.strOk
  rw [List.all_toArray, List.all_eq_true]
  exact fun x hx => decide_eq_true (h x hx)
theorem sO_ofString (s : String) : PyData.strOk (s : Str) = true := by
  rw [show ((s : Str)) = ⟨(s.toList.map Char.toNat).toArray⟩ from Str.ofString_eq_toList s]
  refine sO_list fun x hx => ?_
  obtain ⟨c, _, rfl⟩ := List.mem_map.mp hx
  exact sO_char c
theorem sO_dc (i : Int) : PyData.strOk (dcT i) = true := sO_ofString _
theorem hxs_ok : ∀ k n, ∀ x ∈ hxs k n, x < 0x110000
  | 0, _, x, h => by cases h
  | k + 1, n, x, h => by
    rcases List.mem_cons.mp h with rfl | h
    · exact sO_char _
    · exact hxs_ok k n x h
theorem sO_hex (n : Nat) : PyData.strOk (hexT n) = true := sO_list (hxs_ok 8 n)
theorem sO_join (a : Str) (ha : PyData.strOk a = true) : ∀ ys : List Str, (∀ y ∈ ys, PyData.strOk y = true) → PyData.strOk (Txt.join a ys) = true := by
  intro ys
  rw [TL.join_eq]
  induction ys with
  | nil => intro _; rw [Str.join]; exact sO_list (l := []) (fun x h => by cases h)
  | cons x r ih =>
    intro h
    cases r with
    | nil => rw [Str.join]; exact h x List.mem_cons_self
    | cons y r =>
      show PyData.strOk (x ++ a ++ Str.join a (y :: r)) = true
      exact sO_cat (sO_cat (h x List.mem_cons_self) ha) (ih fun z hz => h z (List.mem_cons_of_mem _ hz))
theorem lay_strs : ∀ xs : List Str, (∀ x ∈ xs, PyData.strOk x = true) → PyData.canLayAll0 (xs.map .str) = true ∧ PyData.depthAll (xs.map .str) = 0
  | [], _ => by simp [PyData.canLayAll0, PyData.depthAll]
  | x :: r, h => by
    have := lay_strs r fun y hy => h y (List.mem_cons_of_mem _ hy)
    simp [PyData.canLayAll0, PyData.depthAll, PyData.canLay0, PyData.depth, this.1, this.2, h x List.mem_cons_self]
theorem dpStrs {K : PySem.W.Frag} {H : Hp} : ∀ xs : List Str, DpAll K H (xs.map V.str) (xs.map .str)
  | [] => .nil
  | x :: r => .cons (.str x) (dpStrs r)
theorem strs_shaped {xs : List Str} (h : ∀ x ∈ xs, PyData.strOk x = true) : SeqAt.shaped (.list (xs.map .str)) = true := by
  have l := lay_strs xs h
  simp only [SeqAt.shaped, PyData.canLay0, PyData.depth, l.1, l.2, Bool.true_and, decide_eq_true_eq]
  decide
theorem ints_shaped (xs : List Int) : SeqAt.shaped (.list (xs.map .int)) = true := by
  have l := lay_ints xs
  simp only [SeqAt.shaped, PyData.canLay0, PyData.depth, l.1, l.2, Bool.true_and, decide_eq_true_eq]
  decide
/-- a list against the empty one -/
theorem w_neE0 {K : PySem.W.Frag} {p q : Addr} {xs : List V} {ds : List PyData} {H : Hp} {Q : VK} (h1 : SqL K H p xs) (hd : DpAll K H xs ds) (h2 : SqL K H q []) (s : SeqAt.shaped (.list ds) = true) (k : Q (.bl (!decide (xs = []))) H) : rNeD K (.ref p) (.ref q) H Q :=
  ⟨.list ds, .list [], .lst h1 hd, .lst h2 .nil, s, by decide, by
    cases hd with
    | nil => exact k
    | cons _ _ => exact k⟩
end Co


set_option Elab.async false
set_option linter.all false
set_option maxRecDepth 100000
set_option maxHeartbeats 4000000
open PySem PySem.Spec PyProof.Rows L2 Co
local macro_rules | `(tactic| walk_at "side") => `(tactic| first | assumption | (refine wide_div (b := 40) ?_ (show _ < 1099511627776 from ?_) (by decide) (by decide) <;> omega) | (dsimp only [CDiv, CPow, CMul, CDivW, CMulW]; omega) | omega | decide)
local macro_rules | `(tactic| walk_at "w1") => `(tactic| first
  | ((with_reducible refine' w_var ?hv ?_); (case hv => exact rfl))
  | (with_reducible refine w_c ?_)
  | (with_reducible refine w_op ?_)
  | (with_reducible refine w_un ?_)
  | (with_reducible refine w_I0 ?_)
  | (with_reducible refine w_p32 ?_)
  | (with_reducible refine w_p31 ?_)
  | (with_reducible refine w_p26 ?_)
  | (with_reducible refine w_p22 ?_)
  | (with_reducible refine w_p20 ?_)
  | (with_reducible refine w_p18 ?_)
  | (with_reducible refine w_p17 ?_)
  | (with_reducible refine w_p16 ?_)
  | (with_reducible refine w_p14 ?_)
  | (with_reducible refine w_p13 ?_)
  | ((with_reducible refine w_I ?hc ?_); (case hc => walk_at "side"))
  | (with_reducible refine w_U ?_)
  | (with_reducible refine w_eqI ?_)
  | (with_reducible refine w_neI ?_)
  | (with_reducible refine w_eqS ?_)
  | ((with_reducible refine w_eq ?hc ?_); (case hc => exact rfl))
  | ((with_reducible refine w_ne ?hc ?_); (case hc => exact rfl))
  | (with_reducible refine w_test ?_)
  | (with_reducible refine w_B ?_)
  | (with_reducible refine w_bl ?_)
  | (with_reducible refine w_if ?_)
  | (with_reducible refine w_ifB ?_)
  | (with_reducible refine w_isB ?_)
  | (with_reducible refine w_notB ?_)
  | (with_reducible refine w_isiInt ?_)
  | (with_reducible refine w_isiIntB ?_)
  | (with_reducible refine w_andT ?_)
  | (with_reducible refine w_orT ?_)
  | (with_reducible refine w_notT ?_)
  | (with_reducible refine w_andV ?_)
  | (with_reducible refine w_orV ?_)
  | (with_reducible refine w_notV ?_)
  | (with_reducible refine w_chain ?_)
  | (with_reducible refine w_seq ?_)
  | (with_reducible refine w_next ?_)
  | (with_reducible refine w_ret ?_)
  | (with_reducible refine w_retN ?_)
  | (with_reducible refine w_ifS ?_)
  | (with_reducible refine w_asg ?_)
  | (with_reducible refine w_name ?_)
  | (with_reducible refine w_drop ?_)
  | (with_reducible refine w_nil ?_)
  | (with_reducible refine w_cons ?_)
  | (with_reducible refine w_call ?_)
  | (with_reducible refine w_cb ?_)
  | (with_reducible refine w_sub ?_)
  | (with_reducible refine w_gNil ?_)
  | (with_reducible refine w_gCons ?_)
  | ((with_reducible refine' w_gTup ?hh ?hn ?_); (case hh => assumption); (case hn => exact rfl))
  | (with_reducible refine w_for ?_)
  | (with_reducible refine w_iL ?_)
  | (with_reducible refine w_iT ?_)
  | (with_reducible refine w_rng1 ?_)
  | (with_reducible refine w_rng2 ?_)
  | (with_reducible refine w_lc ?_)
  | (with_reducible refine w_zST ?_)
  | (with_reducible refine w_sc ?_)
  | ((with_reducible refine' w_aug ?hh ?_); (case hh => exact rfl))
  | (with_reducible refine w_ipI ?_)
  | (with_reducible refine w_iSt ?_)
  | (with_reducible refine w_sl ?_)
  | (with_reducible refine w_part ?_)
  | (with_reducible refine w_noPart ?_)
  | (with_reducible refine w_exI ?_)
  | (with_reducible refine w_m1 ?_)
  | (with_reducible refine w_isS ?_)
  | (with_reducible refine w_starts ?_)
  | (with_reducible refine w_bm ?_)
  | ((with_reducible refine' w_tyL ?hh ?_); (case hh => assumption))
  | (with_reducible refine w_star ?_)
  | (with_reducible refine w_inSg ?_)
  | (with_reducible refine w_yes ?_)
  | (with_reducible refine w_tup ?_)
  | (with_reducible refine w_lst ?_)
  | ((with_reducible refine' w_ixL ?hh ?ha ?_); (case hh => assumption); (case ha => exact rfl))
  | ((with_reducible refine' w_ixT ?hh ?ha ?_); (case hh => assumption); (case ha => exact rfl))
  | ((with_reducible refine' w_setL ?hh ?ha ?_); (case hh => assumption); (case ha => exact rfl))
  | ((with_reducible refine' w_lenL ?hh ?_); (case hh => assumption))
  | (with_reducible refine w_int1 ?_)
  | (with_reducible refine w_abs ?_)
  | (with_reducible refine w_nT ?_)
  | (with_reducible refine w_nF ?_)
  | (with_reducible refine w_itT ?_)
  | (with_reducible refine w_itF ?_)
  | ((with_reducible refine w_spI1 ?hc ?_); (case hc => walk_at "side"))
  | ((with_reducible refine w_spI2 ?hc ?_); (case hc => walk_at "side")))
local macro_rules | `(tactic| walk_at "ws") => `(tactic| repeat (walk_at "w1"))
local macro_rules | `(tactic| walk_at "wd") => `(tactic| repeat (first | walk_at "w1" | (refine w_decT ?hd ?_; (case hd => decide)) | (refine w_decF ?hd ?_; (case hd => decide))))
local macro_rules | `(tactic| walk_at "wr") => `(tactic| repeat (first | walk_at "w1" | (refine w_ndecF rfl ?_)))

namespace K06
def topS (i : Nat) : Stmt := PySem.Challenge.pw_restitch_k06_listings_and_names.main.body.getD i (.Pass ⟨0, 0, 0, 0⟩)
abbrev s_encode : Stmt := topS 6
abbrev s_decode : Stmt := topS 7
abbrev s_immediate : Stmt := topS 8
abbrev s_with_sign : Stmt := topS 9
abbrev s_find_segment : Stmt := topS 11
abbrev s_can_load : Stmt := topS 12
abbrev s_can_fetch : Stmt := topS 13
abbrev s_load_word : Stmt := topS 14
abbrev s_first_memory : Stmt := topS 15
abbrev s_word_at : Stmt := topS 16
abbrev s_show_instruction : Stmt := topS 18
abbrev s_show_operand : Stmt := topS 19
abbrev s_show_code : Stmt := topS 20
abbrev s_show_place : Stmt := topS 21
abbrev s_show_word : Stmt := topS 22
abbrev s_name_at : Stmt := topS 24
abbrev s_address_of : Stmt := topS 25
abbrev s_law_draw : Stmt := topS 27
abbrev s_law_take : Stmt := topS 28
abbrev s_law_ops : Stmt := topS 29
abbrev s_law_word : Stmt := topS 30
abbrev s_law_bytes : Stmt := topS 31
abbrev s_law_label : Stmt := topS 32
abbrev s_law_here : Stmt := topS 33
abbrev s_law_put_word : Stmt := topS 34
abbrev s_law_some : Stmt := topS 35
abbrev s_law_register : Stmt := topS 36
abbrev s_law_set : Stmt := topS 37
abbrev s_law_alu : Stmt := topS 38
abbrev s_law_memory : Stmt := topS 39
abbrev s_law_if : Stmt := topS 40
abbrev s_law_loop : Stmt := topS 41
abbrev s_law_call : Stmt := topS 42
abbrev s_law_switch : Stmt := topS 43
abbrev s_law_rows : Stmt := topS 44
abbrev s_law_odd : Stmt := topS 45
abbrev s_law_code_words : Stmt := topS 46
abbrev s_law_values : Stmt := topS 47
abbrev s_law_image : Stmt := topS 48
abbrev s_law_home : Stmt := topS 49
abbrev s_law_read : Stmt := topS 50
abbrev s_law_fetch : Stmt := topS 51
abbrev s_law_hexadecimal : Stmt := topS 52
abbrev s_law_text : Stmt := topS 53
abbrev s_law_line : Stmt := topS 54
abbrev s_law : Stmt := topS 55
theorem sc_law_draw : FnScope ["script", "seed", "cell"] ["script"] (defScope s_law_draw) := ⟨rfl, rfl, rfl, by decide +kernel, rfl, by decide +kernel, by decide +kernel⟩
theorem sc_law_take : FnScope ["draw", "many", "found"] ["draw", "many"] (defScope s_law_take) := ⟨rfl, rfl, rfl, by decide +kernel, rfl, by decide +kernel, by decide +kernel⟩
/-! drawing -/
def mabs (n : Int) : Int := if n < 0 then -n else n
theorem mabs_nn (n : Int) : 0 ≤ mabs n := by unfold mabs; split <;> omega
def DrawC (H : Hp) (d c : Addr) : Prop := ∃ (cs : List Int) (i cur seed : Int), H d = some (.lst [.ref c, .int i, .int cur, .int seed]) ∧ H c = some (.lst (cs.map V.int)) ∧ c ≠ d ∧ -1 ≤ i ∧ 0 ≤ cur ∧ 0 ≤ seed ∧ seed < 2147483647 ∧ ∀ x ∈ cs, 0 ≤ x
theorem DrawC.keep {H H' : Hp} {d c : Addr} (h : DrawC H d c) (s1 : ∀ o, H d = some o → H' d = some o) (s2 : ∀ o, H c = some o → H' c = some o) : DrawC H' d c := by
  obtain ⟨cs, i, cur, seed, hd, hc, r⟩ := h
  exact ⟨cs, i, cur, seed, s1 _ hd, s2 _ hc, r⟩
theorem DrawC.same {H H' : Hp} {d c : Addr} (h : DrawC H d c) (s : Same H H') : DrawC H' d c := h.keep (s d) (s c)
theorem DrawC.ne {H : Hp} {d c p : Addr} (h : DrawC H d c) (np : H p = none) : p ≠ d := by
  obtain ⟨cs, i, cur, seed, e, _⟩ := h
  exact (ne_of_none e np).symm
theorem DrawC.nec {H : Hp} {d c p : Addr} (h : DrawC H d c) (np : H p = none) : p ≠ c := by
  obtain ⟨cs, i, cur, seed, _, e, _⟩ := h
  exact (ne_of_none e np).symm
def spDraw (K : PySem.W.Frag) : Sp := fun vs H Q _ => ∃ (a : Addr) (ns : List Int), vs = [.ref a] ∧ SqL K H a (ns.map V.int) ∧ ns.length ≤ 63 ∧ ∀ (d c : Addr) H', H d = none → H c = none → Same H H' → DrawC H' d c → Q (.ref d) H'
def spTake : Sp := fun vs H Q _ => ∃ (d c : Addr) (m : Int), vs = [.ref d, .int m] ∧ DrawC H d c ∧ 0 < m ∧ m ≤ 4294967296 ∧ ∀ (r : Int) H', 0 ≤ r → r < m → DrawC H' d c → But d H H' → Q (.int r) H'
theorem w_take {H : Hp} {Q : VK} {E : XK} {d c : Addr} {m : Int} (hd : DrawC H d c) (h0 : 0 < m) (h1 : m ≤ 4294967296) (q : ∀ (r : Int) H', 0 ≤ r → r < m → DrawC H' d c → But d H H' → Q (.int r) H') : spTake [.ref d, .int m] H Q E := ⟨d, c, m, rfl, hd, h0, h1, q⟩
section
variable {P : Program} {w : World} {K : PySem.W.Frag} {mg : Str → Option Value} {base : Heap}
theorem ok_take (b_int : mg "int" = none) (b_abs : mg "abs" = none) (b_len : mg "len" = none) (Z : St1 K mg "_law_take" s_law_take ["draw", "many"]) : Cd P w K mg base 1 "_law_take" spTake := by
  refine Z.cd sc_law_take (fun vs H Q E h => by obtain ⟨d, c, m, rfl, _⟩ := h; rfl) (fun f cdv A outer s H vs Q E hr h => ?_)
  obtain ⟨d, c, m, rfl, ⟨cs, i, cur, seed, hd, hc, ncd, hi, hcur, hs0, hs1, hcs⟩, hm0, hm1, q⟩ := h
  refine ⟨_, (Evl.pss_cut (ps_if (pt_cmpR op_eq (pe_ix ix_list (pv 0) pe_int (fun _ _ => rfl)) pe_int (nomark _)) (pss_cons (ps_asg (pe_op op_add (pe_ix ix_list (pv 0) pe_int (fun _ _ => rfl)) pe_int) (pg_sub (pv 0) pe_int set_list))
      (Evl.pss_cut (ps_if (pt_cmpR op_lt (pe_ix ix_list (pv 0) pe_int (fun _ _ => rfl)) (pe_callB call_lenQ (by rfl) b_len PySem.boot_len (pa_cons (pe_ix ix_list (pv 0) pe_int (fun _ _ => rfl)) pa_nil)) (nomark _)) (pss_one (ps_asg (pe_ix ix_list (pe_ix ix_list (pv 0) pe_int (fun _ _ => rfl)) (pe_ix ix_list (pv 0) pe_int (fun _ _ => rfl)) (fun _ _ => rfl)) (pg_sub (pv 0) pe_int set_list))) pss_nil)
      (pss_one (ps_if (pt_cmpR op_eq (pe_ix ix_list (pv 0) pe_int (fun _ _ => rfl)) pe_int (nomark _)) (pss_cons (ps_asg (pe_op op_mod (pe_callTy call_intQ (by rfl) b_int (by decide +kernel) (pa_cons (pe_op op_add (pe_op op_mul (pe_ix ix_list (pv 0) pe_int (fun _ _ => rfl)) pe_int) pe_int) pa_nil)) pe_int) (pg_sub (pv 0) pe_int set_list))
      (pss_one (ps_asg (pe_ix ix_list (pv 0) pe_int (fun _ _ => rfl)) (pg_sub (pv 0) pe_int set_list)))) pss_nil)))) pss_nil)
      (pss_cons (ps_set (i := 2) sc_law_take.nd rfl (.inl rfl) (pe_op op_mod (pe_callTy call_intQ (by rfl) b_int (by decide +kernel) (pa_cons (pe_ix ix_list (pv 0) pe_int (fun _ _ => rfl)) pa_nil)) (pv 1)))
      (pss_cons (ps_asg (pe_op op_fdivW (pe_ix ix_list (pv 0) pe_int (fun _ _ => rfl)) (pv 1)) (pg_sub (pv 0) pe_int set_list))
      (pss_one (ps_ret (pv 2)))))), ?_⟩
  refine Evl.q_cut (M := fun σ' H' => σ' = [some (.ref d), some (.int m), none] ∧ But d H H' ∧ ∃ i' cur' seed', H' d = some (.lst [.ref c, .int i', .int cur', .int seed']) ∧ H' c = some (.lst (cs.map V.int)) ∧ -1 ≤ i' ∧ 0 ≤ cur' ∧ 0 ≤ seed' ∧ seed' < 2147483647) ?_ ?_
  · (with_reducible refine w_ifS ?_)
    (with_reducible refine w_test ?_)
    (with_reducible refine w_op ?_)
    (with_reducible refine w_op ?_)
    ((with_reducible refine' w_var ?hv ?_); (case hv => exact rfl))
    (with_reducible refine w_c ?_)
    ((with_reducible refine' w_ixL ?hh ?ha ?_); (case hh => assumption); (case ha => exact rfl))
    (with_reducible refine w_c ?_)
    (with_reducible refine w_eqI ?_)
    (with_reducible refine w_bl ?_)
    refine w_dec (fun e => ?_) (fun e => ?_)
    · (with_reducible refine w_seq ?_)
      (with_reducible refine w_asg ?_)
      (with_reducible refine w_op ?_)
      (with_reducible refine w_op ?_)
      ((with_reducible refine' w_var ?hv ?_); (case hv => exact rfl))
      (with_reducible refine w_c ?_)
      ((with_reducible refine' w_ixL ?hh ?ha ?_); (case hh => assumption); (case ha => exact rfl))
      (with_reducible refine w_c ?_)
      (with_reducible refine w_I0 ?_)
      (with_reducible refine w_sub ?_)
      ((with_reducible refine' w_var ?hv ?_); (case hv => exact rfl))
      (with_reducible refine w_c ?_)
      ((with_reducible refine' w_setL ?hh ?ha ?_); (case hh => assumption); (case ha => exact rfl))
      intro H1 hd1 bt1
      replace hd1 : H1 d = some (.lst [.ref c, .int (i + 1), .int cur, .int seed]) := hd1
      have hc1 : H1 c = some (.lst (cs.map V.int)) := bt1 c _ ncd hc
      skip
      refine Evl.q_cut (M := fun σ' H' => σ' = [some (.ref d), some (.int m), none] ∧ But d H H' ∧ ∃ cur', H' d = some (.lst [.ref c, .int (i + 1), .int cur', .int seed]) ∧ 0 ≤ cur') ?_ ?_
      · (with_reducible refine w_ifS ?_)
        (with_reducible refine w_test ?_)
        (with_reducible refine w_op ?_)
        (with_reducible refine w_op ?_)
        ((with_reducible refine' w_var ?hv ?_); (case hv => exact rfl))
        (with_reducible refine w_c ?_)
        ((with_reducible refine' w_ixL ?hh ?ha ?_); (case hh => assumption); (case ha => exact rfl))
        (with_reducible refine w_cb ?_)
        (with_reducible refine w_cons ?_)
        (with_reducible refine w_op ?_)
        ((with_reducible refine' w_var ?hv ?_); (case hv => exact rfl))
        (with_reducible refine w_c ?_)
        ((with_reducible refine' w_ixL ?hh ?ha ?_); (case hh => assumption); (case ha => exact rfl))
        (with_reducible refine w_nil ?_)
        ((with_reducible refine' w_lenL ?hh ?_); (case hh => assumption))
        (with_reducible refine w_I0 ?_)
        (with_reducible refine w_bl ?_)
        refine w_dec (fun e2 => ?_) (fun e2 => ?_)
        · (with_reducible refine w_asg ?_)
          (with_reducible refine w_op ?_)
          (with_reducible refine w_op ?_)
          ((with_reducible refine' w_var ?hv ?_); (case hv => exact rfl))
          (with_reducible refine w_c ?_)
          ((with_reducible refine' w_ixL ?hh ?ha ?_); (case hh => assumption); (case ha => exact rfl))
          (with_reducible refine w_op ?_)
          ((with_reducible refine' w_var ?hv ?_); (case hv => exact rfl))
          (with_reducible refine w_c ?_)
          ((with_reducible refine' w_ixL ?hh ?ha ?_); (case hh => assumption); (case ha => exact rfl))
          have l1 : (cs.map V.int).length = cs.length := List.length_map ..
          have hlt : (i + 1).toNat < cs.length := by omega
          refine w_ixL (v := .int cs[(i + 1).toNat]) hc1 (atI_of (by omega) ?_) ?_
          · rw [List.getElem?_map, List.getElem?_eq_getElem hlt]; rfl
          (with_reducible refine w_sub ?_)
          ((with_reducible refine' w_var ?hv ?_); (case hv => exact rfl))
          (with_reducible refine w_c ?_)
          ((with_reducible refine' w_setL ?hh ?ha ?_); (case hh => assumption); (case ha => exact rfl))
          intro H2 hd2 bt2
          skip
          exact ⟨rfl, bt1.trans bt2, _, hd2, hcs _ (List.getElem_mem hlt)⟩
        · (with_reducible refine w_next ?_)
          exact ⟨rfl, bt1, cur, hd1, hcur⟩
      · rintro σ' H2 ⟨rfl, bt2, cur2, hd2, hcur2⟩
        (with_reducible refine w_ifS ?_)
        (with_reducible refine w_test ?_)
        (with_reducible refine w_op ?_)
        (with_reducible refine w_op ?_)
        ((with_reducible refine' w_var ?hv ?_); (case hv => exact rfl))
        (with_reducible refine w_c ?_)
        ((with_reducible refine' w_ixL ?hh ?ha ?_); (case hh => assumption); (case ha => exact rfl))
        (with_reducible refine w_c ?_)
        (with_reducible refine w_eqI ?_)
        (with_reducible refine w_bl ?_)
        have hc2 : H2 c = some (.lst (cs.map V.int)) := bt2 c _ ncd hc
        refine w_dec (fun e2 => ?_) (fun e2 => ?_)
        · (with_reducible refine w_seq ?_)
          (with_reducible refine w_asg ?_)
          (with_reducible refine w_op ?_)
          (with_reducible refine w_cb ?_)
          (with_reducible refine w_cons ?_)
          (with_reducible refine w_op ?_)
          (with_reducible refine w_op ?_)
          (with_reducible refine w_op ?_)
          ((with_reducible refine' w_var ?hv ?_); (case hv => exact rfl))
          (with_reducible refine w_c ?_)
          ((with_reducible refine' w_ixL ?hh ?ha ?_); (case hh => assumption); (case ha => exact rfl))
          (with_reducible refine w_c ?_)
          ((with_reducible refine w_I ?hc ?_); (case hc => walk_at "side"))
          (with_reducible refine w_c ?_)
          (with_reducible refine w_I0 ?_)
          (with_reducible refine w_nil ?_)
          (with_reducible refine w_int1 ?_)
          (with_reducible refine w_c ?_)
          ((with_reducible refine w_I ?hc ?_); (case hc => walk_at "side"))
          (with_reducible refine w_sub ?_)
          ((with_reducible refine' w_var ?hv ?_); (case hv => exact rfl))
          (with_reducible refine w_c ?_)
          ((with_reducible refine' w_setL ?hh ?ha ?_); (case hh => assumption); (case ha => exact rfl))
          intro H3 hd3 bt3
          replace hd3 : H3 d = some (.lst [.ref c, .int (i + 1), .int cur2, .int ((seed * 48271 + 11) % 2147483647)]) := hd3
          (with_reducible refine w_asg ?_)
          (with_reducible refine w_op ?_)
          ((with_reducible refine' w_var ?hv ?_); (case hv => exact rfl))
          (with_reducible refine w_c ?_)
          ((with_reducible refine' w_ixL ?hh ?ha ?_); (case hh => assumption); (case ha => exact rfl))
          (with_reducible refine w_sub ?_)
          ((with_reducible refine' w_var ?hv ?_); (case hv => exact rfl))
          (with_reducible refine w_c ?_)
          ((with_reducible refine' w_setL ?hh ?ha ?_); (case hh => assumption); (case ha => exact rfl))
          intro H4 hd4 bt4
          replace hd4 : H4 d = some (.lst [.ref c, .int (i + 1), .int ((seed * 48271 + 11) % 2147483647), .int ((seed * 48271 + 11) % 2147483647)]) := hd4
          have g1 : 0 ≤ (seed * 48271 + 11) % 2147483647 := Int.emod_nonneg _ (by omega)
          have g2 : (seed * 48271 + 11) % 2147483647 < 2147483647 := Int.emod_lt_of_pos _ (by omega)
          exact ⟨rfl, bt2.trans (bt3.trans bt4), _, _, _, hd4, bt4 c _ ncd (bt3 c _ ncd hc2), by omega, g1, g1, g2⟩
        · (with_reducible refine w_next ?_)
          exact ⟨rfl, bt2, _, _, _, hd2, hc2, by omega, hcur2, hs0, hs1⟩
    · (with_reducible refine w_next ?_)
      exact ⟨rfl, But.refl _ _, i, cur, seed, hd, hc, hi, hcur, hs0, hs1⟩
  · rintro σ' H' ⟨rfl, bt, i', cur', seed', hd', hc', hi', hcur', hs0', hs1'⟩
    (with_reducible refine w_seq ?_)
    (with_reducible refine w_asg ?_)
    (with_reducible refine w_op ?_)
    (with_reducible refine w_cb ?_)
    (with_reducible refine w_cons ?_)
    (with_reducible refine w_op ?_)
    ((with_reducible refine' w_var ?hv ?_); (case hv => exact rfl))
    (with_reducible refine w_c ?_)
    ((with_reducible refine' w_ixL ?hh ?ha ?_); (case hh => assumption); (case ha => exact rfl))
    (with_reducible refine w_nil ?_)
    (with_reducible refine w_int1 ?_)
    ((with_reducible refine' w_var ?hv ?_); (case hv => exact rfl))
    ((with_reducible refine w_I ?hc ?_); (case hc => walk_at "side"))
    (with_reducible refine w_name ?_)
    (with_reducible refine w_seq ?_)
    (with_reducible refine w_asg ?_)
    (with_reducible refine w_op ?_)
    (with_reducible refine w_op ?_)
    ((with_reducible refine' w_var ?hv ?_); (case hv => exact rfl))
    (with_reducible refine w_c ?_)
    ((with_reducible refine' w_ixL ?hh ?ha ?_); (case hh => assumption); (case ha => exact rfl))
    ((with_reducible refine' w_var ?hv ?_); (case hv => exact rfl))
    ((with_reducible refine w_I ?hc ?_); (case hc => walk_at "side"))
    (with_reducible refine w_sub ?_)
    ((with_reducible refine' w_var ?hv ?_); (case hv => exact rfl))
    (with_reducible refine w_c ?_)
    ((with_reducible refine' w_setL ?hh ?ha ?_); (case hh => assumption); (case ha => exact rfl))
    intro H1 hd1 bt1
    replace hd1 : H1 d = some (.lst [.ref c, .int i', .int (cur' / m), .int seed']) := hd1
    (with_reducible refine w_ret ?_)
    ((with_reducible refine' w_var ?hv ?_); (case hv => exact rfl))
    refine q (cur' % m) H1 (Int.emod_nonneg _ (by omega)) (Int.emod_lt_of_pos _ hm0) ⟨cs, i', cur' / m, seed', hd1, bt1 c _ ncd hc', ncd, hi', Int.ediv_nonneg hcur' (by omega), hs0', hs1', hcs⟩ (bt.trans bt1)
theorem ok_draw (b_int : mg "int" = none) (b_abs : mg "abs" = none) (b_len : mg "len" = none) (Z : St1 K mg "_law_draw" s_law_draw ["script"]) : Cd P w K mg base 1 "_law_draw" (spDraw K) := by
  refine Z.cd sc_law_draw (fun vs H Q E h => by obtain ⟨d, m, rfl, _⟩ := h; rfl) (fun f cdv A outer s H vs Q E hr h => ?_)
  obtain ⟨a, ns, rfl, hS, hlen, q⟩ := h
  refine ⟨_, (pss_cons (ps_set (i := 1) sc_law_draw.nd rfl (.inl rfl) pe_int)
      (pss_cons (ps_for PassesOwn.never rfl (pi_list (pv 0)) (pg_name (i := 2) sc_law_draw.nd rfl (.inl rfl))
      (pss_one (ps_set (i := 1) sc_law_draw.nd rfl (.inl rfl) (pe_op op_mod (pe_callTy call_intQ (by rfl) b_int (by decide +kernel) (pa_cons (pe_op op_add (pe_op op_add (pe_op op_mul (pv 1) pe_int) (pe_op op_mod (pe_callB call_absQ (by rfl) b_abs (by decide +kernel) (pa_cons (pe_callTy call_intQ (by rfl) b_int (by decide +kernel) (pa_cons (pv 2) pa_nil)) pa_nil)) pe_int)) pe_int) pa_nil)) pe_int))))
      (pss_one (ps_ret (pe_lst (pa_cons (pe_lc (own := [("cell", 2)]) rfl sc_law_draw.nd (pi_list (pv 0)) (blkOk_by (own := [("cell", 2)]) (N := ["script", "seed", "cell"]) (sc := (defScope s_law_draw)) (by decide +kernel)) (fun _ _ _ _ _ => (pg_name (i := 2) sc_law_draw.nd rfl (.inl rfl))) (fun _ _ _ _ _ => pts_nil) (fun _ _ _ _ _ => (pe_callB call_absQ (by rfl) b_abs (by decide +kernel) (pa_cons (pe_callTy call_intQ (by rfl) b_int (by decide +kernel) (pa_cons (pv 2) pa_nil)) pa_nil)))) (pa_cons (pe_un un_neg pe_int) (pa_cons pe_int (pa_cons (pv 1) pa_nil))))))))), ?_⟩
  (with_reducible refine w_seq ?_)
  (with_reducible refine w_asg ?_)
  (with_reducible refine w_c ?_)
  (with_reducible refine w_name ?_)
  (with_reducible refine w_seq ?_)
  (with_reducible refine w_for ?_)
  (with_reducible refine w_iL ?_)
  ((with_reducible refine' w_var ?hv ?_); (case hv => exact rfl))
  refine w_forL (ns.map V.int) (fun i σ' H' => H' = H ∧ ∃ (y : Option V) (seed : Int), σ' = [some (.ref a), some (.int seed), y] ∧ 0 ≤ seed ∧ seed < 2147483647) hS ⟨rfl, none, 7, rfl, by decide, by decide⟩ (fun i σ' H' _ ⟨e, _⟩ => by rw [e]; exact hS) ?_ ?_
  · rintro i x σ' H' hx ⟨rfl, y, seed, rfl, h0, h1⟩
    obtain ⟨n, _, rfl⟩ := map_get hx
    (with_reducible refine w_name ?_)
    (with_reducible refine w_asg ?_)
    (with_reducible refine w_op ?_)
    (with_reducible refine w_cb ?_)
    (with_reducible refine w_cons ?_)
    (with_reducible refine w_op ?_)
    (with_reducible refine w_op ?_)
    (with_reducible refine w_op ?_)
    ((with_reducible refine' w_var ?hv ?_); (case hv => exact rfl))
    (with_reducible refine w_c ?_)
    ((with_reducible refine w_I ?hc ?_); (case hc => walk_at "side"))
    (with_reducible refine w_op ?_)
    (with_reducible refine w_cb ?_)
    (with_reducible refine w_cons ?_)
    (with_reducible refine w_cb ?_)
    (with_reducible refine w_cons ?_)
    ((with_reducible refine' w_var ?hv ?_); (case hv => exact rfl))
    (with_reducible refine w_nil ?_)
    (with_reducible refine w_int1 ?_)
    (with_reducible refine w_nil ?_)
    (with_reducible refine w_abs ?_)
    (with_reducible refine w_c ?_)
    ((with_reducible refine w_I ?hc ?_); (case hc => walk_at "side"))
    (with_reducible refine w_I0 ?_)
    (with_reducible refine w_c ?_)
    (with_reducible refine w_I0 ?_)
    (with_reducible refine w_nil ?_)
    (with_reducible refine w_int1 ?_)
    (with_reducible refine w_c ?_)
    ((with_reducible refine w_I ?hc ?_); (case hc => walk_at "side"))
    (with_reducible refine w_name ?_)
    refine ⟨rfl, _, _, rfl, Int.emod_nonneg _ (by omega), Int.emod_lt_of_pos _ (by omega)⟩
  · rintro σ' H' ⟨rfl, y, seed, rfl, h0, h1⟩
    (with_reducible refine w_ret ?_)
    (with_reducible refine w_lst ?_)
    (with_reducible refine w_cons ?_)
    (with_reducible refine w_lc ?_)
    (with_reducible refine w_iL ?_)
    ((with_reducible refine' w_var ?hv ?_); (case hv => exact rfl))
    refine w_lcL (ns.map V.int) (fun c i H2 => H' c = none ∧ Same H' H2 ∧ H2 c = some (.lst (((ns.take i).map mabs).map V.int))) hS (fun c nc => ⟨nc, Same.new nc, upd_same⟩) (fun c i H2 _ ⟨_, e, _⟩ => e.seq hS) ?_ ?_
    · rintro c i x H2 hx ⟨nc, sm, hc⟩
      obtain ⟨n, hn, rfl⟩ := map_get hx
      (with_reducible refine w_name ?_)
      refine ⟨rfl, ?_⟩
      (with_reducible refine w_yes ?_)
      (with_reducible refine w_itT ?_)
      (with_reducible refine w_cb ?_)
      (with_reducible refine w_cons ?_)
      (with_reducible refine w_cb ?_)
      (with_reducible refine w_cons ?_)
      ((with_reducible refine' w_var ?hv ?_); (case hv => exact rfl))
      (with_reducible refine w_nil ?_)
      (with_reducible refine w_int1 ?_)
      (with_reducible refine w_nil ?_)
      (with_reducible refine w_abs ?_)
      have hi : i < ns.length := (List.getElem?_eq_some_iff.mp hn).1
      refine ⟨_, hc, by simp only [List.length_map, List.length_take]; exact small1000 (by omega), nc, ?_, ?_⟩
      · exact fun b o e => by rw [upd_ne (ne_of_none e nc)]; exact sm b o e
      · rw [upd_same, take_more hn, List.map_append, List.map_append]; rfl
    · rintro c H2 nc ⟨_, sm, hc⟩
      (with_reducible refine w_cons ?_)
      (with_reducible refine w_un ?_)
      (with_reducible refine w_c ?_)
      (with_reducible refine w_U ?_)
      (with_reducible refine w_cons ?_)
      (with_reducible refine w_c ?_)
      (with_reducible refine w_cons ?_)
      ((with_reducible refine' w_var ?hv ?_); (case hv => exact rfl))
      (with_reducible refine w_nil ?_)
      refine w_kLst (by show 4 ≤ sizeLine; decide) fun d H3 nd sm3 hd => ?_
      have hdc : c ≠ d := ne_of_none hc nd
      rw [List.length_map, List.take_length] at hc
      refine q d c _ (sm.free nd) nc (sm.trans sm3) ⟨ns.map mabs, -1, 0, seed, hd, sm3 _ _ hc, hdc, by decide, by decide, h0, h1, fun x hx => ?_⟩
      obtain ⟨n, _, rfl⟩ := List.mem_map.mp hx
      exact mabs_nn n
end
end K06

namespace K06
def opsT : List (Str × Str) := [(("add" : Str), ("dss" : Str)), (("sub" : Str), ("dss" : Str)), (("mul" : Str), ("dss" : Str)), (("and" : Str), ("dss" : Str)), (("or" : Str), ("dss" : Str)), (("xor" : Str), ("dss" : Str)), (("shl" : Str), ("dss" : Str)), (("shr" : Str), ("dss" : Str)), (("sar" : Str), ("dss" : Str)), (("slt" : Str), ("dss" : Str)), (("sltu" : Str), ("dss" : Str)), (("divu" : Str), ("dss" : Str)), (("remu" : Str), ("dss" : Str)),
  (("addi" : Str), ("dsi" : Str)), (("andi" : Str), ("dsi" : Str)), (("ori" : Str), ("dsi" : Str)), (("xori" : Str), ("dsi" : Str)), (("shli" : Str), ("dsi" : Str)), (("shri" : Str), ("dsi" : Str)), (("sari" : Str), ("dsi" : Str)), (("slti" : Str), ("dsi" : Str)), (("lui" : Str), ("du" : Str)), (("lw" : Str), ("dsi" : Str)), (("lb" : Str), ("dsi" : Str)), (("lbu" : Str), ("dsi" : Str)), (("sw" : Str), ("ssi" : Str)), (("sb" : Str), ("ssi" : Str)),
  (("beq" : Str), ("ssi" : Str)), (("bne" : Str), ("ssi" : Str)), (("blt" : Str), ("ssi" : Str)), (("bge" : Str), ("ssi" : Str)), (("bltu" : Str), ("ssi" : Str)), (("bgeu" : Str), ("ssi" : Str)), (("jal" : Str), ("dj" : Str)), (("jalr" : Str), ("dsi" : Str)), (("get" : Str), ("d" : Str)), (("put" : Str), ("s" : Str)), (("exit" : Str), ("s" : Str))]
def R16 (x : Int) : Prop := 0 ≤ x ∧ x < 16
inductive Fits : Str → List Int → Prop
  | dss {a b c : Int} (ha : R16 a) (hb : R16 b) (hc : R16 c) : Fits "dss" [a, b, c]
  | dsi {a b c : Int} (ha : R16 a) (hb : R16 b) (hc : -8192 ≤ c ∧ c ≤ 8191) : Fits "dsi" [a, b, c]
  | ssi {a b c : Int} (ha : R16 a) (hb : R16 b) (hc : -8192 ≤ c ∧ c ≤ 8191) : Fits "ssi" [a, b, c]
  | du {a c : Int} (ha : R16 a) (hc : 0 ≤ c ∧ c < 262144) : Fits "du" [a, c]
  | dj {a c : Int} (ha : R16 a) (hc : -131072 ≤ c ∧ c ≤ 131071) : Fits "dj" [a, c]
  | d {a : Int} (ha : R16 a) : Fits "d" [a]
  | s {a : Int} (ha : R16 a) : Fits "s" [a]
def stepE (s : Int × Int) (p : Nat × Int) : Int × Int := if p.1 = 100 ∨ p.1 = 115 then (s.1 + p.2 * 2 ^ s.2.toNat, s.2 - 4) else if p.1 = 105 then (s.1 + p.2 % 16384, s.2) else (s.1 + p.2 % 262144, s.2)
def goE (l : List (Nat × Int)) (w : Int) : Int × Int := l.foldl stepE (w, 22)
def encW (n : Nat) (fm : Str) (xs : List Int) : Int := (goE (fm.cps.toList.zip xs) (((n : Int) + 1) * 67108864)).1
def sg (b h : Int) : Int := if h ≤ b then b - 2 * h else b
def imm (c : Nat) (w : Int) : Int := if c = 105 then sg (w % 16384) 8192 else if c = 106 then sg (w % 262144) 131072 else w % 262144
def stepD (w : Int) (s : List Int × Int) (c : Nat) : List Int × Int := if c = 100 ∨ c = 115 then (s.1 ++ [w / 2 ^ s.2.toNat % 16], s.2 - 4) else (s.1 ++ [imm c w], s.2)
def goD (w : Int) (l : List Nat) : List Int × Int := l.foldl (stepD w) ([], 22)
def fieldsOf (fm : Str) (w : Int) : List Int := (goD w fm.cps.toList).1
theorem cps_dss : (("dss" : Str).cps.toList) = [100, 115, 115] := rfl
theorem cps_dsi : (("dsi" : Str).cps.toList) = [100, 115, 105] := rfl
theorem cps_ssi : (("ssi" : Str).cps.toList) = [115, 115, 105] := rfl
theorem cps_du : (("du" : Str).cps.toList) = [100, 117] := rfl
theorem cps_dj : (("dj" : Str).cps.toList) = [100, 106] := rfl
theorem cps_d : (("d" : Str).cps.toList) = [100] := rfl
theorem cps_s : (("s" : Str).cps.toList) = [115] := rfl
section
variable {n : Nat} {a b c : Int}
local macro_rules | `(tactic| walk_at "enc") => `(tactic| (simp only [encW, goE, cps_dss, cps_dsi, cps_ssi, cps_du, cps_dj, cps_d, cps_s, List.zip_cons_cons, List.zip_nil_left, List.foldl_cons, List.foldl_nil, stepE]; simp))
theorem enc_dss : encW n "dss" [a, b, c] = ((n : Int) + 1) * 67108864 + a * 4194304 + b * 262144 + c * 16384 := by walk_at "enc"
theorem enc_dsi : encW n "dsi" [a, b, c] = ((n : Int) + 1) * 67108864 + a * 4194304 + b * 262144 + c % 16384 := by walk_at "enc"
theorem enc_ssi : encW n "ssi" [a, b, c] = ((n : Int) + 1) * 67108864 + a * 4194304 + b * 262144 + c % 16384 := by walk_at "enc"
theorem enc_du : encW n "du" [a, c] = ((n : Int) + 1) * 67108864 + a * 4194304 + c % 262144 := by walk_at "enc"
theorem enc_dj : encW n "dj" [a, c] = ((n : Int) + 1) * 67108864 + a * 4194304 + c % 262144 := by walk_at "enc"
theorem enc_d : encW n "d" [a] = ((n : Int) + 1) * 67108864 + a * 4194304 := by walk_at "enc"
theorem enc_s : encW n "s" [a] = ((n : Int) + 1) * 67108864 + a * 4194304 := by walk_at "enc"
end
section
variable {w : Int}
local macro_rules | `(tactic| walk_at "fld") => `(tactic| (simp only [fieldsOf, goD, cps_dss, cps_dsi, cps_ssi, cps_du, cps_dj, cps_d, cps_s, List.foldl_cons, List.foldl_nil, stepD, imm]; simp))
theorem fld_dss : fieldsOf "dss" w = [w / 4194304 % 16, w / 262144 % 16, w / 16384 % 16] := by walk_at "fld"
theorem fld_dsi : fieldsOf "dsi" w = [w / 4194304 % 16, w / 262144 % 16, sg (w % 16384) 8192] := by walk_at "fld"
theorem fld_ssi : fieldsOf "ssi" w = [w / 4194304 % 16, w / 262144 % 16, sg (w % 16384) 8192] := by walk_at "fld"
theorem fld_du : fieldsOf "du" w = [w / 4194304 % 16, w % 262144] := by walk_at "fld"
theorem fld_dj : fieldsOf "dj" w = [w / 4194304 % 16, sg (w % 262144) 131072] := by walk_at "fld"
theorem fld_d : fieldsOf "d" w = [w / 4194304 % 16] := by walk_at "fld"
theorem fld_s : fieldsOf "s" w = [w / 4194304 % 16] := by walk_at "fld"
end
theorem Fits.enc {n : Nat} {fm : Str} {xs : List Int} (h : Fits fm xs) : fieldsOf fm (encW n fm xs) = xs ∧ encW n fm xs / 67108864 = (n : Int) + 1 ∧ 0 ≤ encW n fm xs := by
  cases h with
  | dss ha hb hc => rw [enc_dss, fld_dss]; unfold R16 at ha hb hc; refine ⟨?_, by omega, by omega⟩; congr 1; omega; congr 1; omega; congr 1; omega
  | dsi ha hb hc => rw [enc_dsi, fld_dsi]; unfold R16 at ha hb; refine ⟨?_, by omega, by omega⟩; congr 1; omega; congr 1; omega; congr 1; unfold sg; split <;> omega
  | ssi ha hb hc => rw [enc_ssi, fld_ssi]; unfold R16 at ha hb; refine ⟨?_, by omega, by omega⟩; congr 1; omega; congr 1; omega; congr 1; unfold sg; split <;> omega
  | du ha hc => rw [enc_du, fld_du]; unfold R16 at ha; refine ⟨?_, by omega, by omega⟩; congr 1; omega; congr 1; omega
  | dj ha hc => rw [enc_dj, fld_dj]; unfold R16 at ha; refine ⟨?_, by omega, by omega⟩; congr 1; omega; congr 1; unfold sg; split <;> omega
  | d ha => rw [enc_d, fld_d]; unfold R16 at ha; refine ⟨?_, by omega, by omega⟩; congr 1; omega
  | s ha => rw [enc_s, fld_s]; unfold R16 at ha; refine ⟨?_, by omega, by omega⟩; congr 1; omega
def forms : List Str := ["dss", "dsi", "ssi", "du", "dj", "d", "s"]
theorem r16m (x : Int) : R16 (x % 16) := ⟨Int.emod_nonneg _ (by decide), Int.emod_lt_of_pos _ (by decide)⟩
theorem fits_of {fm : Str} (h : fm ∈ forms) (w : Int) : Fits fm (fieldsOf fm w) := by
  simp only [forms, List.mem_cons, List.not_mem_nil, or_false] at h
  rcases h with rfl | rfl | rfl | rfl | rfl | rfl | rfl
  · rw [fld_dss]; exact .dss (r16m _) (r16m _) (r16m _)
  · rw [fld_dsi]; exact .dsi (r16m _) (r16m _) (by unfold sg; split <;> omega)
  · rw [fld_ssi]; exact .ssi (r16m _) (r16m _) (by unfold sg; split <;> omega)
  · rw [fld_du]; exact .du (r16m _) (by omega)
  · rw [fld_dj]; exact .dj (r16m _) (by unfold sg; split <;> omega)
  · rw [fld_d]; exact .d (r16m _)
  · rw [fld_s]; exact .s (r16m _)
theorem ops_forms : ∀ p ∈ opsT, p.2 ∈ forms := by decide +kernel
theorem ops_nodup : ∀ m, m < 38 → ∀ n, n < 38 → (opsT[m]?.map (·.1)) = (opsT[n]?.map (·.1)) → m = n := by decide +kernel
/-- the n-th op with its form and fields that fit -/
structure Ins (n : Nat) (op fm : Str) (xs : List Int) : Prop where
  at_ : opsT[n]? = some (op, fm)
  fits : Fits fm xs
theorem Ins.inj {n n' : Nat} {op op' fm fm' : Str} {xs xs' : List Int} (h : Ins n op fm xs) (h' : Ins n' op' fm' xs') (e : encW n fm xs = encW n' fm' xs') : op = op' ∧ fm = fm' ∧ xs = xs' ∧ n = n' := by
  have a1 := h.fits.enc (n := n)
  have a2 := h'.fits.enc (n := n')
  have en : n = n' := by rw [e] at a1; omega
  subst en
  have q := Option.some.inj (h.at_.symm.trans h'.at_)
  cases q
  refine ⟨rfl, rfl, ?_, rfl⟩
  rw [← a1.1, e, a2.1]
end K06

namespace K06
theorem sc_law_ops : FnScope [] [] (defScope s_law_ops) := ⟨rfl, rfl, rfl, by decide +kernel, rfl, by decide +kernel, by decide +kernel⟩
theorem sc_law_label : FnScope ["p"] ["p"] (defScope s_law_label) := ⟨rfl, rfl, rfl, by decide +kernel, rfl, by decide +kernel, by decide +kernel⟩
theorem sc_law_here : FnScope ["p", "label"] ["p", "label"] (defScope s_law_here) := ⟨rfl, rfl, rfl, by decide +kernel, rfl, by decide +kernel, by decide +kernel⟩
theorem sc_law_put_word : FnScope ["p", "row"] ["p", "row"] (defScope s_law_put_word) := ⟨rfl, rfl, rfl, by decide +kernel, rfl, by decide +kernel, by decide +kernel⟩
theorem sc_law_some : FnScope ["p", "many"] ["p", "many"] (defScope s_law_some) := ⟨rfl, rfl, rfl, by decide +kernel, rfl, by decide +kernel, by decide +kernel⟩
theorem sc_law_register : FnScope ["p"] ["p"] (defScope s_law_register) := ⟨rfl, rfl, rfl, by decide +kernel, rfl, by decide +kernel, by decide +kernel⟩
theorem sc_law_set : FnScope ["p", "number", "value", "high"] ["p", "number", "value"] (defScope s_law_set) := ⟨rfl, rfl, rfl, by decide +kernel, rfl, by decide +kernel, by decide +kernel⟩
abbrev kS (s : Str) : Key := Sum.inr s
def pD (d c a cl tb l : V) : List (Key × V) := [(kS "draw", d), (kS "code", c), (kS "at", a), (kS "calls", cl), (kS "table", tb), (kS "left", l)]
/-- fields that fit, the immediate any int -/
inductive RFits : Str → List Int → Prop
  | dss {a b c : Int} (ha : R16 a) (hb : R16 b) (hc : R16 c) : RFits "dss" [a, b, c]
  | dsi {a b c : Int} (ha : R16 a) (hb : R16 b) : RFits "dsi" [a, b, c]
  | ssi {a b c : Int} (ha : R16 a) (hb : R16 b) : RFits "ssi" [a, b, c]
  | du {a c : Int} (ha : R16 a) : RFits "du" [a, c]
  | dj {a c : Int} (ha : R16 a) : RFits "dj" [a, c]
  | d {a : Int} (ha : R16 a) : RFits "d" [a]
  | s {a : Int} (ha : R16 a) : RFits "s" [a]
def insV (op : Str) (xs : List Int) : List V := .str op :: xs.map V.int
def RowOk (L : Nat) (H : Hp) (v : V) : Prop := ∃ t, v = .ref t ∧
  ((∃ (n : Nat) (op fm : Str) (xs : List Int), opsT[n]? = some (op, fm) ∧ RFits fm xs ∧ H t = some (.tup (insV op xs))) ∨
   (∃ (n : Nat) (op fm : Str) (xs : List Int) (t2 : Addr) (lb : Int), opsT[n]? = some (op, fm) ∧ (∀ z, RFits fm (xs ++ [z])) ∧ H t = some (.tup (insV op xs ++ [.ref t2])) ∧ H t2 = some (.tup [.str "to", .int lb]) ∧ 0 ≤ lb ∧ lb < L) ∨
   (∃ w : Int, 0 ≤ w ∧ w < 4294967296 ∧ H t = some (.tup [.str "word", .int w])))
def TK (H H' : Hp) : Prop := ∀ a xs, H a = some (.tup xs) → H' a = some (.tup xs)
theorem TK.same {H H' : Hp} (s : Same H H') : TK H H' := fun a xs h => s a _ h
theorem TK.lst {H H' : Hp} {c : Addr} {xs : List V} (b : But c H H') (h : H c = some (.lst xs)) : TK H H' := fun a ys q => b a _ (ne_of q h (by intro z; cases z)) q
theorem TK.dic {H H' : Hp} {c : Addr} {xs : List (Key × V)} (b : But c H H') (h : H c = some (.dK xs)) : TK H H' := fun a ys q => b a _ (ne_of q h (by intro z; cases z)) q
theorem RowOk.keep {L L' : Nat} {H H' : Hp} {v : V} (h : RowOk L H v) (k : TK H H') (l : L ≤ L') : RowOk L' H' v := by
  obtain ⟨t, rfl, h⟩ := h
  refine ⟨t, rfl, ?_⟩
  rcases h with ⟨n, op, fm, xs, h1, h2, h3⟩ | ⟨n, op, fm, xs, t2, lb, h1, h2, h3, h4, h5, h6⟩ | ⟨w, h1, h2, h3⟩
  · exact .inl ⟨n, op, fm, xs, h1, h2, k _ _ h3⟩
  · exact .inr (.inl ⟨n, op, fm, xs, t2, lb, h1, h2, k _ _ h3, k _ _ h4, h5, by omega⟩)
  · exact .inr (.inr ⟨w, h1, h2, k _ _ h3⟩)
/-- what p holds -/
structure PS where
  d : Addr
  cc : Addr
  c : Addr
  a : Addr
  cl : Addr
  tb : Addr
  code : List V
  at_ : List Int
  calls : List Int
  tbl : List Int
  left : Int
structure PAt (H : Hp) (p : Addr) (S : PS) : Prop where
  hp : H p = some (.dK (pD (.ref S.d) (.ref S.c) (.ref S.a) (.ref S.cl) (.ref S.tb) (.int S.left)))
  hd : DrawC H S.d S.cc
  hc : H S.c = some (.lst S.code)
  ha : H S.a = some (.lst (S.at_.map V.int))
  hcl : H S.cl = some (.lst (S.calls.map V.int))
  htb : H S.tb = some (.lst (S.tbl.map V.int))
  dc : S.d ≠ S.c
  da : S.d ≠ S.a
  ca : S.c ≠ S.a
  ec : S.cc ≠ S.c
  ea : S.cc ≠ S.a
  ld : S.cl ≠ S.d
  lc : S.cl ≠ S.c
  la : S.cl ≠ S.a
  td : S.tb ≠ S.d
  tc : S.tb ≠ S.c
  ta : S.tb ≠ S.a
  rows : ∀ v ∈ S.code, RowOk S.at_.length H v
  cls : ∀ l ∈ S.calls, 0 ≤ l ∧ l < S.at_.length
  tls : ∀ l ∈ S.tbl, 0 ≤ l ∧ l < S.at_.length
  ats : ∀ x ∈ S.at_, -1 ≤ x ∧ x ≤ 100000
  lf : 0 ≤ S.left
/-- all but p and its three lists stay -/
def FrP (p : Addr) (S : PS) (H H' : Hp) : Prop := ∀ b o, b ≠ p → b ≠ S.d → b ≠ S.c → b ≠ S.a → H b = some o → H' b = some o
theorem FrP.trans {p : Addr} {S S' : PS} {H H1 H2 : Hp} (f : FrP p S H H1) (g : FrP p S' H1 H2) (e1 : S'.d = S.d) (e2 : S'.c = S.c) (e3 : S'.a = S.a) : FrP p S H H2 := fun b o h1 h2 h3 h4 h => g b o h1 (by rw [e1]; exact h2) (by rw [e2]; exact h3) (by rw [e3]; exact h4) (f b o h1 h2 h3 h4 h)
theorem FrP.same {p : Addr} {S : PS} {H H' : Hp} (s : Same H H') : FrP p S H H' := fun b o _ _ _ _ h => s b o h
theorem PAt.nep {H : Hp} {p x : Addr} {S : PS} (h : PAt H p S) {xs : List V} (hx : H x = some (.lst xs)) : x ≠ p := ne_of hx h.hp (by intro z; cases z)
theorem PAt.hdl {H : Hp} {p : Addr} {S : PS} (h : PAt H p S) : ∃ xs, H S.d = some (.lst xs) := by
  obtain ⟨cs, i, cur, seed, hd, _⟩ := h.hd
  exact ⟨_, hd⟩
theorem PAt.hccl {H : Hp} {p : Addr} {S : PS} (h : PAt H p S) : ∃ xs, H S.cc = some (.lst xs) := by
  obtain ⟨cs, i, cur, seed, hd, hc, _⟩ := h.hd
  exact ⟨_, hc⟩
theorem PAt.same {H H' : Hp} {p : Addr} {S : PS} (h : PAt H p S) (s : Same H H') : PAt H' p S :=
  { h with hp := s _ _ h.hp, hd := h.hd.same s, hc := s _ _ h.hc, ha := s _ _ h.ha, hcl := s _ _ h.hcl, htb := s _ _ h.htb, rows := fun v hv => (h.rows v hv).keep (.same s) (Nat.le_refl _) }
theorem PAt.draw {H H' : Hp} {p : Addr} {S : PS} (h : PAt H p S) (b : But S.d H H') (hd : DrawC H' S.d S.cc) : PAt H' p S ∧ FrP p S H H' := by
  obtain ⟨xs, hx⟩ := h.hdl
  refine ⟨{ h with hp := b _ _ (h.nep hx).symm h.hp, hd := hd, hc := b _ _ h.dc.symm h.hc, ha := b _ _ h.da.symm h.ha, hcl := b _ _ h.ld h.hcl, htb := b _ _ h.td h.htb, rows := fun v hv => (h.rows v hv).keep (.lst b hx) (Nat.le_refl _) }, fun q o _ h2 _ _ e => b q o h2 e⟩
theorem PAt.put {H H' : Hp} {p : Addr} {S : PS} {v : V} (h : PAt H p S) (b : But S.c H H') (hc : H' S.c = some (.lst (S.code ++ [v]))) (hv : RowOk S.at_.length H v) : PAt H' p { S with code := S.code ++ [v] } ∧ FrP p S H H' := by
  have k : TK H H' := .lst b h.hc
  refine ⟨{ h with hp := b _ _ (h.nep h.hc).symm h.hp, hd := h.hd.keep (fun o => b _ o h.dc) (fun o => b _ o h.ec), hc := hc, ha := b _ _ h.ca.symm h.ha, hcl := b _ _ h.lc h.hcl, htb := b _ _ h.tc h.htb, rows := fun u hu => ?_ }, fun q o _ _ h3 _ e => b q o h3 e⟩
  rcases List.mem_append.mp hu with hu | hu
  · exact (h.rows u hu).keep k (Nat.le_refl _)
  · rw [List.mem_singleton.mp hu]; exact hv.keep k (Nat.le_refl _)
theorem PAt.lab {H H' : Hp} {p : Addr} {S : PS} {ls : List Int} (h : PAt H p S) (b : But S.a H H') (ha : H' S.a = some (.lst (ls.map V.int))) (hl : S.at_.length ≤ ls.length) (hv : ∀ x ∈ ls, -1 ≤ x ∧ x ≤ 100000) : PAt H' p { S with at_ := ls } ∧ FrP p S H H' := by
  have k : TK H H' := .lst b h.ha
  refine ⟨{ h with hp := b _ _ (h.nep h.ha).symm h.hp, hd := h.hd.keep (fun o => b _ o h.da) (fun o => b _ o h.ea), hc := b _ _ h.ca h.hc, ha := ha, hcl := b _ _ h.la h.hcl, htb := b _ _ h.ta h.htb, rows := fun u hu => (h.rows u hu).keep k hl, ats := hv, cls := fun l q => ?_, tls := fun l q => ?_ }, fun q o _ _ _ h4 e => b q o h4 e⟩
  · have := h.cls l q; show 0 ≤ l ∧ l < (ls.length : Int); omega
  · have := h.tls l q; show 0 ≤ l ∧ l < (ls.length : Int); omega
/-! the dict read and written -/
def kDG (Q : VK) : V → V → Hp → Prop := fun x y H2 => ∃ a v, x = .ref a ∧ DGet H2 a y (some v) ∧ Q v H2
theorem w_dget {td ty : TE} {σ : L2.St} {H : Hp} {Q : VK} (q : td σ H fun x H1 => ty σ H1 fun y H2 => kDG Q x y H2) : tDGet td ty σ H Q := q
theorem w_kDG {p : Addr} {kvs : List (Key × V)} {z : Str} {v : V} {H : Hp} {Q : VK} (h : H p = some (.dK kvs)) (e : valV kvs (kS z) = some v) (q : Q v H) : kDG Q (.ref p) (.str z) H := ⟨p, v, rfl, by have := DGet.k (k := kS z) h; rw [e] at this; exact this, q⟩
def kDP (D : Ends) (σ : L2.St) (v : V) : V → V → Hp → Prop := fun x y H3 => ∃ a H4, x = .ref a ∧ DPut H3 a y v H4 ∧ D.nx σ H4
theorem w_dput {td ty tv : TE} {D : Ends} {σ : L2.St} {H : Hp} (q : tv σ H fun v H1 => td σ H1 fun x H2 => ty σ H2 fun y H3 => kDP D σ v x y H3) : sDPut td ty tv D σ H := q
theorem w_kDP {p : Addr} {kvs kvs' : List (Key × V)} {z : Str} {v : V} {D : Ends} {σ : L2.St} {H : Hp} (h : H p = some (.dK kvs)) (hl : kvs.length < 1000) (e : putK kvs (kS z) v = kvs') (q : ∀ H', H' p = some (.dK kvs') → But p H H' → D.nx σ H') : kDP D σ v (.ref p) (.str z) H :=
  ⟨p, _, rfl, DPut.k (k := kS z) h (Nat.lt_of_lt_of_le hl (by decide)), q _ (by rw [e]; exact upd_same) But.set⟩
local macro_rules | `(tactic| walk_at "w1") => `(tactic| first
  | (with_reducible refine w_dget ?_)
  | (with_reducible refine w_dput ?_))
section
variable {P : Program} {w : World} {K : PySem.W.Frag} {mg : Str → Option Value} {base : Heap}
def spOps : Sp := fun vs H Q _ => vs = [] ∧ ∀ p H', H p = none → Same H H' → H' p = some (.lst ((opsT.map (·.1)).map V.str)) → Q (.ref p) H'
theorem ok_law_ops (Z : St1 K mg "_law_ops" s_law_ops []) : Cd P w K mg base 1 "_law_ops" spOps := by
  refine Z.cd sc_law_ops (fun vs H Q E h => by obtain ⟨rfl, _⟩ := h; rfl) (fun f cdv A outer s H vs Q E hr h => ?_)
  obtain ⟨rfl, q⟩ := h
  refine ⟨_, (pss_one (ps_ret (pe_lst (pa_cons pe_str (pa_cons pe_str (pa_cons pe_str (pa_cons pe_str (pa_cons pe_str (pa_cons pe_str (pa_cons pe_str (pa_cons pe_str (pa_cons pe_str (pa_cons pe_str (pa_cons pe_str (pa_cons pe_str (pa_cons pe_str (pa_cons pe_str (pa_cons pe_str (pa_cons pe_str (pa_cons pe_str (pa_cons pe_str (pa_cons pe_str (pa_cons pe_str (pa_cons pe_str (pa_cons pe_str (pa_cons pe_str (pa_cons pe_str (pa_cons pe_str (pa_cons pe_str (pa_cons pe_str (pa_cons pe_str (pa_cons pe_str (pa_cons pe_str (pa_cons pe_str (pa_cons pe_str (pa_cons pe_str (pa_cons pe_str (pa_cons pe_str (pa_cons pe_str (pa_cons pe_str (pa_cons pe_str pa_nil))))))))))))))))))))))))))))))))))))))))), ?_⟩
  (with_reducible refine w_ret ?_)
  (with_reducible refine w_lst ?_)
  (with_reducible refine w_cons ?_)
  (with_reducible refine w_c ?_)
  (with_reducible refine w_cons ?_)
  (with_reducible refine w_c ?_)
  (with_reducible refine w_cons ?_)
  (with_reducible refine w_c ?_)
  (with_reducible refine w_cons ?_)
  (with_reducible refine w_c ?_)
  (with_reducible refine w_cons ?_)
  (with_reducible refine w_c ?_)
  (with_reducible refine w_cons ?_)
  (with_reducible refine w_c ?_)
  (with_reducible refine w_cons ?_)
  (with_reducible refine w_c ?_)
  (with_reducible refine w_cons ?_)
  (with_reducible refine w_c ?_)
  (with_reducible refine w_cons ?_)
  (with_reducible refine w_c ?_)
  (with_reducible refine w_cons ?_)
  (with_reducible refine w_c ?_)
  (with_reducible refine w_cons ?_)
  (with_reducible refine w_c ?_)
  (with_reducible refine w_cons ?_)
  (with_reducible refine w_c ?_)
  (with_reducible refine w_cons ?_)
  (with_reducible refine w_c ?_)
  (with_reducible refine w_cons ?_)
  (with_reducible refine w_c ?_)
  (with_reducible refine w_cons ?_)
  (with_reducible refine w_c ?_)
  (with_reducible refine w_cons ?_)
  (with_reducible refine w_c ?_)
  (with_reducible refine w_cons ?_)
  (with_reducible refine w_c ?_)
  (with_reducible refine w_cons ?_)
  (with_reducible refine w_c ?_)
  (with_reducible refine w_cons ?_)
  (with_reducible refine w_c ?_)
  (with_reducible refine w_cons ?_)
  (with_reducible refine w_c ?_)
  (with_reducible refine w_cons ?_)
  (with_reducible refine w_c ?_)
  (with_reducible refine w_cons ?_)
  (with_reducible refine w_c ?_)
  (with_reducible refine w_cons ?_)
  (with_reducible refine w_c ?_)
  (with_reducible refine w_cons ?_)
  (with_reducible refine w_c ?_)
  (with_reducible refine w_cons ?_)
  (with_reducible refine w_c ?_)
  (with_reducible refine w_cons ?_)
  (with_reducible refine w_c ?_)
  (with_reducible refine w_cons ?_)
  (with_reducible refine w_c ?_)
  (with_reducible refine w_cons ?_)
  (with_reducible refine w_c ?_)
  (with_reducible refine w_cons ?_)
  (with_reducible refine w_c ?_)
  (with_reducible refine w_cons ?_)
  (with_reducible refine w_c ?_)
  (with_reducible refine w_cons ?_)
  (with_reducible refine w_c ?_)
  (with_reducible refine w_cons ?_)
  (with_reducible refine w_c ?_)
  (with_reducible refine w_cons ?_)
  (with_reducible refine w_c ?_)
  (with_reducible refine w_cons ?_)
  (with_reducible refine w_c ?_)
  (with_reducible refine w_cons ?_)
  (with_reducible refine w_c ?_)
  (with_reducible refine w_cons ?_)
  (with_reducible refine w_c ?_)
  (with_reducible refine w_cons ?_)
  (with_reducible refine w_c ?_)
  (with_reducible refine w_cons ?_)
  (with_reducible refine w_c ?_)
  (with_reducible refine w_nil ?_)
  refine w_kLst (by show 38 ≤ sizeLine; decide) fun p H' np sm hp => ?_
  exact q p H' np sm hp
def spLabel : Sp := fun vs H Q _ => ∃ (p : Addr) (S : PS), vs = [.ref p] ∧ PAt H p S ∧ S.at_.length ≤ 100000 ∧ ∀ H', PAt H' p { S with at_ := S.at_ ++ [-1] } → FrP p S H H' → Q (.int S.at_.length) H'
theorem ok_law_label (b_len : mg "len" = none) (Z : St1 K mg "_law_label" s_law_label ["p"]) : Cd P w K mg base 1 "_law_label" spLabel := by
  refine Z.cd sc_law_label (fun vs H Q E h => by obtain ⟨p, S, rfl, _⟩ := h; rfl) (fun f cdv A outer s H vs Q E hr h => ?_)
  obtain ⟨p, S, rfl, hP, hl, q⟩ := h
  have hu := hu_of hr
  refine ⟨_, (pss_cons (ps_expr (pe_bm PySem.F.plainAttrs_list PySem.F.slot_list_append PySem.F.type_list_append mt_append (pe_dget hu (pv 0) pe_str (fun _ _ => rfl)) (pa_cons (pe_un un_neg pe_int) pa_nil)))
      (pss_one (ps_ret (pe_op op_sub (pe_callB call_lenQ (by rfl) b_len PySem.boot_len (pa_cons (pe_dget hu (pv 0) pe_str (fun _ _ => rfl)) pa_nil)) pe_int)))), ?_⟩
  (with_reducible refine w_seq ?_)
  (with_reducible refine w_drop ?_)
  (with_reducible refine w_bm ?_)
  (with_reducible refine w_dget ?_)
  ((with_reducible refine' w_var ?hv ?_); (case hv => exact rfl))
  (with_reducible refine w_c ?_)
  refine w_kDG hP.hp rfl ?_
  have ha := hP.ha
  ((with_reducible refine' w_tyL ?hh ?_); (case hh => assumption))
  (with_reducible refine w_cons ?_)
  (with_reducible refine w_un ?_)
  (with_reducible refine w_c ?_)
  (with_reducible refine w_U ?_)
  (with_reducible refine w_nil ?_)
  refine w_append ha (by rw [List.length_map]; exact Nat.lt_of_le_of_lt hl (by decide)) fun H1 ha1 b1 => ?_
  obtain ⟨hP1, f1⟩ := hP.lab (ls := S.at_ ++ [-1]) b1 (by rw [ha1, List.map_append]; rfl) (by rw [List.length_append]; omega) (fun x hx => by
    rcases List.mem_append.mp hx with hx | hx
    · exact hP.ats x hx
    · rw [List.mem_singleton.mp hx]; decide)
  (with_reducible refine w_ret ?_)
  (with_reducible refine w_op ?_)
  (with_reducible refine w_cb ?_)
  (with_reducible refine w_cons ?_)
  (with_reducible refine w_dget ?_)
  ((with_reducible refine' w_var ?hv ?_); (case hv => exact rfl))
  (with_reducible refine w_c ?_)
  refine w_kDG hP1.hp rfl ?_
  (with_reducible refine w_nil ?_)
  ((with_reducible refine' w_lenL ?hh ?_); (case hh => assumption))
  (with_reducible refine w_c ?_)
  (with_reducible refine w_I0 ?_)
  have e : (((S.at_.map V.int) ++ [V.int (-1)]).length : Int) - 1 = (S.at_.length : Int) := by rw [List.length_append, List.length_map]; simp
  rw [e]
  exact q H1 hP1 f1
def spHere : Sp := fun vs H Q _ => ∃ (p : Addr) (S : PS) (l : Int), vs = [.ref p, .int l] ∧ PAt H p S ∧ S.code.length ≤ 100000 ∧ 0 ≤ l ∧ l < S.at_.length ∧ ∀ (ls : List Int) H', ls.length = S.at_.length → PAt H' p { S with at_ := ls } → FrP p S H H' → Q .non H'
theorem ok_law_here (b_len : mg "len" = none) (Z : St1 K mg "_law_here" s_law_here ["p", "label"]) : Cd P w K mg base 1 "_law_here" spHere := by
  refine Z.cd sc_law_here (fun vs H Q E h => by obtain ⟨p, S, l, rfl, _⟩ := h; rfl) (fun f cdv A outer s H vs Q E hr h => ?_)
  obtain ⟨p, S, l, rfl, hP, hcl, l0, l1, q⟩ := h
  have hu := hu_of hr
  refine ⟨_, (pss_one (ps_asg (pe_callB call_lenQ (by rfl) b_len PySem.boot_len (pa_cons (pe_dget hu (pv 0) pe_str (fun _ _ => rfl)) pa_nil)) (pg_sub (pe_dget hu (pv 0) pe_str (fun _ _ => rfl)) (pv 1) set_list))), ?_⟩
  (with_reducible refine w_asg ?_)
  (with_reducible refine w_cb ?_)
  (with_reducible refine w_cons ?_)
  (with_reducible refine w_dget ?_)
  ((with_reducible refine' w_var ?hv ?_); (case hv => exact rfl))
  (with_reducible refine w_c ?_)
  refine w_kDG hP.hp rfl ?_
  have hc := hP.hc
  have ha := hP.ha
  (with_reducible refine w_nil ?_)
  ((with_reducible refine' w_lenL ?hh ?_); (case hh => assumption))
  (with_reducible refine w_sub ?_)
  (with_reducible refine w_dget ?_)
  ((with_reducible refine' w_var ?hv ?_); (case hv => exact rfl))
  (with_reducible refine w_c ?_)
  refine w_kDG hP.hp rfl ?_
  ((with_reducible refine' w_var ?hv ?_); (case hv => exact rfl))
  obtain ⟨n, rfl⟩ := Int.eq_ofNat_of_zero_le l0
  have hn : n < (S.at_.map V.int).length := by rw [List.length_map]; omega
  refine w_setL (j := n) ha (ixN_lit hn) fun H1 ha1 b1 => ?_
  obtain ⟨hP1, f1⟩ := hP.lab (ls := S.at_.set n (S.code.length : Int)) b1 (by rw [ha1, List.map_set]) (by rw [List.length_set]; exact Nat.le_refl _) (fun x hx => by
    rcases List.mem_or_eq_of_mem_set hx with hx | hx
    · exact hP.ats x hx
    · rw [hx]; omega)
  skip
  exact q _ H1 (by rw [List.length_set]) hP1 f1
def spPut : Sp := fun vs H Q _ => ∃ (p : Addr) (S : PS) (v : V), vs = [.ref p, v] ∧ PAt H p S ∧ S.code.length ≤ 100000 ∧ RowOk S.at_.length H v ∧ ∀ H', PAt H' p { S with code := S.code ++ [v] } → FrP p S H H' → Q .non H'
theorem ok_law_put_word (Z : St1 K mg "_law_put_word" s_law_put_word ["p", "row"]) : Cd P w K mg base 1 "_law_put_word" spPut := by
  refine Z.cd sc_law_put_word (fun vs H Q E h => by obtain ⟨p, S, l, rfl, _⟩ := h; rfl) (fun f cdv A outer s H vs Q E hr h => ?_)
  obtain ⟨p, S, v, rfl, hP, hl, hv, q⟩ := h
  have hu := hu_of hr
  refine ⟨_, (pss_one (ps_expr (pe_bm PySem.F.plainAttrs_list PySem.F.slot_list_append PySem.F.type_list_append mt_append (pe_dget hu (pv 0) pe_str (fun _ _ => rfl)) (pa_cons (pv 1) pa_nil)))), ?_⟩
  (with_reducible refine w_drop ?_)
  (with_reducible refine w_bm ?_)
  (with_reducible refine w_dget ?_)
  ((with_reducible refine' w_var ?hv ?_); (case hv => exact rfl))
  (with_reducible refine w_c ?_)
  refine w_kDG hP.hp rfl ?_
  have hc := hP.hc
  ((with_reducible refine' w_tyL ?hh ?_); (case hh => assumption))
  (with_reducible refine w_cons ?_)
  ((with_reducible refine' w_var ?hv ?_); (case hv => exact rfl))
  (with_reducible refine w_nil ?_)
  refine w_append hc (Nat.lt_of_le_of_lt hl (by decide)) fun H1 hc1 b1 => ?_
  obtain ⟨hP1, f1⟩ := hP.put b1 hc1 hv
  skip
  exact q H1 hP1 f1
def spSome : Sp := fun vs H Q _ => ∃ (p : Addr) (S : PS) (m : Int), vs = [.ref p, .int m] ∧ PAt H p S ∧ 0 < m ∧ m ≤ 4294967296 ∧ ∀ (r : Int) H', 0 ≤ r → r < m → PAt H' p S → FrP p S H H' → Q (.int r) H'
theorem w_some {p : Addr} {S : PS} {m : Int} {H : Hp} {Q : VK} {E : XK} (hP : PAt H p S) (h0 : 0 < m) (h1 : m ≤ 4294967296) (q : ∀ (r : Int) H', 0 ≤ r → r < m → PAt H' p S → FrP p S H H' → Q (.int r) H') : spSome [.ref p, .int m] H Q E := ⟨p, S, m, rfl, hP, h0, h1, q⟩
theorem ok_law_some (c_law_take : Cd P w K mg base 1 "_law_take" spTake) (Z : St1 K mg "_law_some" s_law_some ["p", "many"]) : Cd P w K mg base 2 "_law_some" spSome := by
  refine Z.cd sc_law_some (fun vs H Q E h => by obtain ⟨p, S, l, rfl, _⟩ := h; rfl) (fun f cdv A outer s H vs Q E hr h => ?_)
  obtain ⟨p, S, m, rfl, hP, h0, h1, q⟩ := h
  have hu := hu_of hr
  refine ⟨_, (pss_one (ps_ret (pe_cd c_law_take hr (by first | decide | omega) (by rfl) (pa_cons (pe_dget hu (pv 0) pe_str (fun _ _ => rfl)) (pa_cons (pv 1) pa_nil))))), ?_⟩
  (with_reducible refine w_ret ?_)
  (with_reducible refine w_call ?_)
  (with_reducible refine w_cons ?_)
  (with_reducible refine w_dget ?_)
  ((with_reducible refine' w_var ?hv ?_); (case hv => exact rfl))
  (with_reducible refine w_c ?_)
  refine w_kDG hP.hp rfl ?_
  (with_reducible refine w_cons ?_)
  ((with_reducible refine' w_var ?hv ?_); (case hv => exact rfl))
  (with_reducible refine w_nil ?_)
  refine w_take hP.hd h0 h1 fun r H1 r0 r1 hd1 b1 => ?_
  obtain ⟨hP1, f1⟩ := hP.draw b1 hd1
  exact q r H1 r0 r1 hP1 f1
def spReg : Sp := fun vs H Q _ => ∃ (p : Addr) (S : PS), vs = [.ref p] ∧ PAt H p S ∧ ∀ (r : Int) H', R16 r → PAt H' p S → FrP p S H H' → Q (.int r) H'
theorem w_reg {p : Addr} {S : PS} {H : Hp} {Q : VK} {E : XK} (hP : PAt H p S) (q : ∀ (r : Int) H', R16 r → PAt H' p S → FrP p S H H' → Q (.int r) H') : spReg [.ref p] H Q E := ⟨p, S, rfl, hP, q⟩
theorem ok_law_register (c_law_some : Cd P w K mg base 2 "_law_some" spSome) (Z : St1 K mg "_law_register" s_law_register ["p"]) : Cd P w K mg base 3 "_law_register" spReg := by
  refine Z.cd sc_law_register (fun vs H Q E h => by obtain ⟨p, S, rfl, _⟩ := h; rfl) (fun f cdv A outer s H vs Q E hr h => ?_)
  obtain ⟨p, S, rfl, hP, q⟩ := h
  refine ⟨_, (pss_one (ps_ret (pe_op op_add pe_int (pe_cd c_law_some hr (by first | decide | omega) (by rfl) (pa_cons (pv 0) (pa_cons pe_int pa_nil)))))), ?_⟩
  (with_reducible refine w_ret ?_)
  (with_reducible refine w_op ?_)
  (with_reducible refine w_c ?_)
  (with_reducible refine w_call ?_)
  (with_reducible refine w_cons ?_)
  ((with_reducible refine' w_var ?hv ?_); (case hv => exact rfl))
  (with_reducible refine w_cons ?_)
  (with_reducible refine w_c ?_)
  (with_reducible refine w_nil ?_)
  refine w_some hP (by decide) (by decide) fun r H1 r0 r1 hP1 f1 => ?_
  (with_reducible refine w_I0 ?_)
  exact q _ H1 ⟨by omega, by omega⟩ hP1 f1
theorem w_put {p : Addr} {S : PS} {v : V} {H : Hp} {Q : VK} {E : XK} (hP : PAt H p S) (hl : S.code.length ≤ 100000) (hv : RowOk S.at_.length H v) (q : ∀ H', PAt H' p { S with code := S.code ++ [v] } → FrP p S H H' → Q .non H') : spPut [.ref p, v] H Q E := ⟨p, S, v, rfl, hP, hl, hv, q⟩
def spSet : Sp := fun vs H Q _ => ∃ (p : Addr) (S : PS) (n v : Int), vs = [.ref p, .int n, .int v] ∧ PAt H p S ∧ S.code.length ≤ 99990 ∧ R16 n ∧ ∀ (v1 v2 : V) H', PAt H' p { S with code := S.code ++ [v1, v2] } → FrP p S H H' → Q .non H'
theorem rowIns {L : Nat} {H : Hp} {t : Addr} {op fm : Str} {xs : List Int} (n : Nat) (h1 : opsT[n]? = some (op, fm)) (h2 : RFits fm xs) (h3 : H t = some (.tup (insV op xs))) : RowOk L H (.ref t) := ⟨t, rfl, .inl ⟨n, op, fm, xs, h1, h2, h3⟩⟩
theorem ok_law_set (c_law_put_word : Cd P w K mg base 1 "_law_put_word" spPut) (Z : St1 K mg "_law_set" s_law_set ["p", "number", "value"]) : Cd P w K mg base 2 "_law_set" spSet := by
  refine Z.cd sc_law_set (fun vs H Q E h => by obtain ⟨p, S, n, v, rfl, _⟩ := h; rfl) (fun f cdv A outer s H vs Q E hr h => ?_)
  obtain ⟨p, S, n, v, rfl, hP, hl, hn, q⟩ := h
  refine ⟨_, (pss_cons (ps_set (i := 3) sc_law_set.nd rfl (.inl rfl) (pe_op op_fdiv (pe_op op_add (pv 2) pe_int) pe_int))
      (pss_cons (ps_expr (pe_cd c_law_put_word hr (by first | decide | omega) (by rfl) (pa_cons (pv 0) (pa_cons (pe_tup (pa_cons pe_str (pa_cons (pv 1) (pa_cons (pv 3) pa_nil)))) pa_nil))))
      (pss_one (ps_expr (pe_cd c_law_put_word hr (by first | decide | omega) (by rfl) (pa_cons (pv 0) (pa_cons (pe_tup (pa_cons pe_str (pa_cons (pv 1) (pa_cons (pv 1) (pa_cons (pe_op op_sub (pv 2) (pe_op op_mul (pv 3) pe_int)) pa_nil))))) pa_nil))))))), ?_⟩
  (with_reducible refine w_seq ?_)
  (with_reducible refine w_asg ?_)
  (with_reducible refine w_op ?_)
  (with_reducible refine w_op ?_)
  ((with_reducible refine' w_var ?hv ?_); (case hv => exact rfl))
  (with_reducible refine w_c ?_)
  (with_reducible refine w_I0 ?_)
  (with_reducible refine w_c ?_)
  ((with_reducible refine w_I ?hc ?_); (case hc => walk_at "side"))
  (with_reducible refine w_name ?_)
  (with_reducible refine w_seq ?_)
  (with_reducible refine w_drop ?_)
  (with_reducible refine w_call ?_)
  (with_reducible refine w_cons ?_)
  ((with_reducible refine' w_var ?hv ?_); (case hv => exact rfl))
  (with_reducible refine w_cons ?_)
  (with_reducible refine w_tup ?_)
  (with_reducible refine w_cons ?_)
  (with_reducible refine w_c ?_)
  (with_reducible refine w_cons ?_)
  ((with_reducible refine' w_var ?hv ?_); (case hv => exact rfl))
  (with_reducible refine w_cons ?_)
  ((with_reducible refine' w_var ?hv ?_); (case hv => exact rfl))
  (with_reducible refine w_nil ?_)
  refine w_kTup (by show 3 ≤ sizeLine; decide) fun t H1 nt s1 ht => ?_
  (with_reducible refine w_nil ?_)
  refine w_put (hP.same s1) (by omega) (rowIns (xs := [n, (v + 8192) / 16384]) 21 rfl (.du hn) ht) fun H2 hP2 f2 => ?_
  (with_reducible refine w_drop ?_)
  (with_reducible refine w_call ?_)
  (with_reducible refine w_cons ?_)
  ((with_reducible refine' w_var ?hv ?_); (case hv => exact rfl))
  (with_reducible refine w_cons ?_)
  (with_reducible refine w_tup ?_)
  (with_reducible refine w_cons ?_)
  (with_reducible refine w_c ?_)
  (with_reducible refine w_cons ?_)
  ((with_reducible refine' w_var ?hv ?_); (case hv => exact rfl))
  (with_reducible refine w_cons ?_)
  ((with_reducible refine' w_var ?hv ?_); (case hv => exact rfl))
  (with_reducible refine w_cons ?_)
  (with_reducible refine w_op ?_)
  ((with_reducible refine' w_var ?hv ?_); (case hv => exact rfl))
  (with_reducible refine w_op ?_)
  ((with_reducible refine' w_var ?hv ?_); (case hv => exact rfl))
  (with_reducible refine w_c ?_)
  ((with_reducible refine w_I ?hc ?_); (case hc => walk_at "side"))
  (with_reducible refine w_I0 ?_)
  (with_reducible refine w_nil ?_)
  refine w_kTup (by show 4 ≤ sizeLine; decide) fun t2 H3 nt2 s3 ht2 => ?_
  (with_reducible refine w_nil ?_)
  refine w_put (hP2.same s3) (by show (S.code ++ [_]).length ≤ 100000; rw [List.length_append]; simp; omega) (rowIns (xs := [n, n, v - (v + 8192) / 16384 * 16384]) 13 rfl (.dsi hn hn) ht2) fun H4 hP4 f4 => ?_
  skip
  refine q (.ref t) (.ref t2) H4 ?_ (((FrP.same s1).trans f2 rfl rfl rfl).trans ((FrP.same s3 : FrP p _ H2 H3).trans f4 rfl rfl rfl) rfl rfl rfl)
  simpa using hP4
end
end K06

namespace K06
local macro_rules | `(tactic| walk_at "w1") => `(tactic| first
  | (with_reducible refine w_dget ?_)
  | (with_reducible refine w_dput ?_))
theorem sc_law_alu : FnScope ["p", "k", "rd", "ra", "imm"] ["p"] (defScope s_law_alu) := ⟨rfl, rfl, rfl, by decide +kernel, rfl, by decide +kernel, by decide +kernel⟩
theorem pick_any (l : List V) {k : Int} (h0 : 0 ≤ k) (h1 : k < l.length) : ∃ v, v ∈ l ∧ atI l k = some v := by
  obtain ⟨n, rfl⟩ := Int.eq_ofNat_of_zero_le h0
  have hn : n < l.length := by omega
  exact ⟨l[n], List.getElem_mem hn, atI_nat (List.getElem?_eq_getElem hn)⟩
theorem PAt.kept {H H1 H2 : Hp} {p x : Addr} {S : PS} {o : HO} (hP : PAt H p S) (nx : H x = none) (hx : H1 x = some o) (f : FrP p S H1 H2) : H2 x = some o := by
  obtain ⟨xs, hd⟩ := hP.hdl
  exact f x o (ne_of_none hP.hp nx).symm (ne_of_none hd nx).symm (ne_of_none hP.hc nx).symm (ne_of_none hP.ha nx).symm hx
/-- a row is put -/
def spOne : Sp := fun vs H Q _ => ∃ (p : Addr) (S : PS), vs = [.ref p] ∧ PAt H p S ∧ S.code.length ≤ 99990 ∧ ∀ (v : V) H', PAt H' p { S with code := S.code ++ [v] } → FrP p S H H' → Q .non H'
theorem alu_facts : ∀ n, n < 21 → ∀ p : Str × Str, opsT[n]? = some p → p.2 = if n < 13 then ("dss" : Str) else "dsi" := by
  have h : ∀ n, n < 21 → (match opsT[n]? with | some p => decide (p.2 = if n < 13 then ("dss" : Str) else "dsi") | none => true) = true := by decide +kernel
  intro n hn p e
  have := h n hn
  rw [e] at this
  exact of_decide_eq_true this
section
variable {P : Program} {w : World} {K : PySem.W.Frag} {mg : Str → Option Value} {base : Heap}
theorem ok_law_alu (c_law_ops : Cd P w K mg base 1 "_law_ops" spOps) (c_law_some : Cd P w K mg base 2 "_law_some" spSome) (c_law_register : Cd P w K mg base 3 "_law_register" spReg) (c_law_put_word : Cd P w K mg base 1 "_law_put_word" spPut) (Z : St1 K mg "_law_alu" s_law_alu ["p"]) : Cd P w K mg base 4 "_law_alu" spOne := by
  refine Z.cd sc_law_alu (fun vs H Q E h => by obtain ⟨p, S, rfl, _⟩ := h; rfl) (fun f cdv A outer s H vs Q E hr h => ?_)
  obtain ⟨p, S, rfl, hP, hl, q⟩ := h
  refine ⟨_, (pss_cons (ps_set (i := 1) sc_law_alu.nd rfl (.inl rfl) (pe_cd c_law_some hr (by first | decide | omega) (by rfl) (pa_cons (pv 0) (pa_cons pe_int pa_nil))))
      (Evl.pss_cut (ps_set (i := 2) sc_law_alu.nd rfl (.inl rfl) (pe_ifExp (pt_cmpR op_gt (pe_cd c_law_some hr (by first | decide | omega) (by rfl) (pa_cons (pv 0) (pa_cons pe_int pa_nil))) pe_int (nomark _)) (pe_cd c_law_register hr (by first | decide | omega) (by rfl) (pa_cons (pv 0) pa_nil)) pe_int))
      (Evl.pss_cut (ps_set (i := 3) sc_law_alu.nd rfl (.inl rfl) (pe_ifExp (pt_cmpR op_gt (pe_cd c_law_some hr (by first | decide | omega) (by rfl) (pa_cons (pv 0) (pa_cons pe_int pa_nil))) pe_int (nomark _)) (pe_cd c_law_register hr (by first | decide | omega) (by rfl) (pa_cons (pv 0) pa_nil)) pe_int))
      (pss_one (ps_if (pt_cmpR op_lt (pv 1) pe_int (nomark _)) (pss_one (ps_expr (pe_cd c_law_put_word hr (by first | decide | omega) (by rfl) (pa_cons (pv 0) (pa_cons (pe_tup (pa_cons (pe_ix ix_list (pe_cd0 c_law_ops hr (by first | decide | omega) (by rfl)) (pv 1) (fun _ _ => rfl)) (pa_cons (pv 2) (pa_cons (pv 3) (pa_cons (pe_cd c_law_register hr (by first | decide | omega) (by rfl) (pa_cons (pv 0) pa_nil)) pa_nil))))) pa_nil))))) (pss_one (ps_if (pt_cmpR op_lt (pv 1) pe_int (nomark _)) (pss_cons (ps_set (i := 4) sc_law_alu.nd rfl (.inl rfl) (pe_ix ix_list (pe_lst (pa_cons pe_int (pa_cons pe_int (pa_cons (pe_un un_neg pe_int) (pa_cons pe_int (pa_cons pe_int (pa_cons pe_int (pa_cons pe_int (pa_cons pe_int (pa_cons (pe_un un_neg pe_int) (pa_cons pe_int pa_nil))))))))))) (pe_cd c_law_some hr (by first | decide | omega) (by rfl) (pa_cons (pv 0) (pa_cons pe_int pa_nil))) (fun _ _ => rfl)))
      (pss_one (ps_expr (pe_cd c_law_put_word hr (by first | decide | omega) (by rfl) (pa_cons (pv 0) (pa_cons (pe_tup (pa_cons (pe_ix ix_list (pe_cd0 c_law_ops hr (by first | decide | omega) (by rfl)) (pv 1) (fun _ _ => rfl)) (pa_cons (pv 2) (pa_cons (pv 3) (pa_cons (pv 4) pa_nil))))) pa_nil)))))) (pss_one (ps_expr (pe_cd c_law_put_word hr (by first | decide | omega) (by rfl) (pa_cons (pv 0) (pa_cons (pe_tup (pa_cons pe_str (pa_cons (pv 2) (pa_cons (pe_ix ix_list (pe_lst (pa_cons pe_int (pa_cons pe_int (pa_cons (pe_op op_sub (pe_op op_pow pe_int pe_int) pe_int) (pa_cons pe_int pa_nil))))) (pe_cd c_law_some hr (by first | decide | omega) (by rfl) (pa_cons (pv 0) (pa_cons pe_int pa_nil))) (fun _ _ => rfl)) pa_nil)))) pa_nil)))))))))))), ?_⟩
  (with_reducible refine w_seq ?_)
  (with_reducible refine w_asg ?_)
  (with_reducible refine w_call ?_)
  (with_reducible refine w_cons ?_)
  ((with_reducible refine' w_var ?hv ?_); (case hv => exact rfl))
  (with_reducible refine w_cons ?_)
  (with_reducible refine w_c ?_)
  (with_reducible refine w_nil ?_)
  refine w_some hP (by decide) (by decide) fun k H1 k0 k1 hP1 f1 => ?_
  obtain ⟨n, rfl⟩ := Int.eq_ofNat_of_zero_le k0
  (with_reducible refine w_name ?_)
  refine Evl.q_cut (M := fun σ' H' => PAt H' p S ∧ FrP p S H H' ∧ ∃ rd, R16 rd ∧ σ' = [some (.ref p), some (.int (n : Nat)), some (.int rd), none, none]) ?_ ?_
  · (with_reducible refine w_asg ?_)
    (with_reducible refine w_if ?_)
    (with_reducible refine w_test ?_)
    (with_reducible refine w_op ?_)
    (with_reducible refine w_call ?_)
    (with_reducible refine w_cons ?_)
    ((with_reducible refine' w_var ?hv ?_); (case hv => exact rfl))
    (with_reducible refine w_cons ?_)
    (with_reducible refine w_c ?_)
    (with_reducible refine w_nil ?_)
    refine w_some hP1 (by decide) (by decide) fun r H2 _ _ hP2 f2 => ?_
    (with_reducible refine w_c ?_)
    (with_reducible refine w_I0 ?_)
    (with_reducible refine w_bl ?_)
    refine w_dec (fun e => ?_) (fun e => ?_)
    · (with_reducible refine w_call ?_)
      (with_reducible refine w_cons ?_)
      ((with_reducible refine' w_var ?hv ?_); (case hv => exact rfl))
      (with_reducible refine w_nil ?_)
      refine w_reg hP2 fun rd H3 hr3 hP3 f3 => ?_
      (with_reducible refine w_name ?_)
      exact ⟨hP3, (f1.trans f2 rfl rfl rfl).trans f3 rfl rfl rfl, rd, hr3, rfl⟩
    · (with_reducible refine w_c ?_)
      (with_reducible refine w_name ?_)
      exact ⟨hP2, f1.trans f2 rfl rfl rfl, 0, ⟨by decide, by decide⟩, rfl⟩
  · rintro σ' H1' ⟨hP1', f1', rd, hrd, rfl⟩
    refine Evl.q_cut (M := fun σ' H' => PAt H' p S ∧ FrP p S H H' ∧ ∃ ra, R16 ra ∧ σ' = [some (.ref p), some (.int (n : Nat)), some (.int rd), some (.int ra), none]) ?_ ?_
    · (with_reducible refine w_asg ?_)
      (with_reducible refine w_if ?_)
      (with_reducible refine w_test ?_)
      (with_reducible refine w_op ?_)
      (with_reducible refine w_call ?_)
      (with_reducible refine w_cons ?_)
      ((with_reducible refine' w_var ?hv ?_); (case hv => exact rfl))
      (with_reducible refine w_cons ?_)
      (with_reducible refine w_c ?_)
      (with_reducible refine w_nil ?_)
      refine w_some hP1' (by decide) (by decide) fun r H2 _ _ hP2 f2 => ?_
      (with_reducible refine w_c ?_)
      (with_reducible refine w_I0 ?_)
      (with_reducible refine w_bl ?_)
      refine w_dec (fun e => ?_) (fun e => ?_)
      · (with_reducible refine w_call ?_)
        (with_reducible refine w_cons ?_)
        ((with_reducible refine' w_var ?hv ?_); (case hv => exact rfl))
        (with_reducible refine w_nil ?_)
        refine w_reg hP2 fun rd H3 hr3 hP3 f3 => ?_
        (with_reducible refine w_name ?_)
        exact ⟨hP3, (f1'.trans f2 rfl rfl rfl).trans f3 rfl rfl rfl, rd, hr3, rfl⟩
      · (with_reducible refine w_c ?_)
        (with_reducible refine w_name ?_)
        exact ⟨hP2, f1'.trans f2 rfl rfl rfl, 0, ⟨by decide, by decide⟩, rfl⟩
    · rintro σ' H2 ⟨hP2, f2, ra, hra, rfl⟩
      (with_reducible refine w_ifS ?_)
      (with_reducible refine w_test ?_)
      (with_reducible refine w_op ?_)
      ((with_reducible refine' w_var ?hv ?_); (case hv => exact rfl))
      (with_reducible refine w_c ?_)
      (with_reducible refine w_I0 ?_)
      (with_reducible refine w_bl ?_)
      refine w_dec (fun e => ?_) (fun e => ?_)
      · have hn : n < 13 := by omega
        obtain ⟨⟨op, fm⟩, hop⟩ : ∃ p, opsT[n]? = some p := ⟨_, List.getElem?_eq_getElem (show n < 38 by omega)⟩
        have efm := alu_facts n (by omega) _ hop
        rw [if_pos hn] at efm
        (with_reducible refine w_drop ?_)
        (with_reducible refine w_call ?_)
        (with_reducible refine w_cons ?_)
        ((with_reducible refine' w_var ?hv ?_); (case hv => exact rfl))
        (with_reducible refine w_cons ?_)
        (with_reducible refine w_tup ?_)
        (with_reducible refine w_cons ?_)
        (with_reducible refine w_op ?_)
        (with_reducible refine w_call ?_)
        (with_reducible refine w_nil ?_)
        refine ⟨rfl, fun l H3 nl s3 hl3 => ?_⟩
        ((with_reducible refine' w_var ?hv ?_); (case hv => exact rfl))
        refine w_ixL (v := .str op) hl3 (atI_nat (by rw [List.getElem?_map, List.getElem?_map, hop]; rfl)) ?_
        (with_reducible refine w_cons ?_)
        ((with_reducible refine' w_var ?hv ?_); (case hv => exact rfl))
        (with_reducible refine w_cons ?_)
        ((with_reducible refine' w_var ?hv ?_); (case hv => exact rfl))
        (with_reducible refine w_cons ?_)
        (with_reducible refine w_call ?_)
        (with_reducible refine w_cons ?_)
        ((with_reducible refine' w_var ?hv ?_); (case hv => exact rfl))
        (with_reducible refine w_nil ?_)
        refine w_reg (hP2.same s3) fun rb H4 hrb hP4 f4 => ?_
        (with_reducible refine w_nil ?_)
        refine w_kTup (by show 4 ≤ sizeLine; decide) fun t H5 nt s5 ht => ?_
        (with_reducible refine w_nil ?_)
        refine w_put (hP4.same s5) (by omega) (rowIns (xs := [rd, ra, rb]) n hop (by rw [show fm = _ from efm]; exact .dss hrd hra hrb) ht) fun H6 hP6 f6 => ?_
        skip
        exact q _ H6 hP6 (((f2.trans (.same s3 : FrP p S H2 H3) rfl rfl rfl).trans f4 rfl rfl rfl).trans ((FrP.same s5 : FrP p S H4 H5).trans f6 rfl rfl rfl) rfl rfl rfl)
      · (with_reducible refine w_ifS ?_)
        (with_reducible refine w_test ?_)
        (with_reducible refine w_op ?_)
        ((with_reducible refine' w_var ?hv ?_); (case hv => exact rfl))
        (with_reducible refine w_c ?_)
        (with_reducible refine w_I0 ?_)
        (with_reducible refine w_bl ?_)
        refine w_dec (fun e2 => ?_) (fun e2 => ?_)
        · have hn : n < 21 := by omega
          obtain ⟨⟨op, fm⟩, hop⟩ : ∃ p, opsT[n]? = some p := ⟨_, List.getElem?_eq_getElem (show n < 38 by omega)⟩
          have efm := alu_facts n hn _ hop
          rw [if_neg (by omega)] at efm
          (with_reducible refine w_seq ?_)
          (with_reducible refine w_asg ?_)
          (with_reducible refine w_op ?_)
          (with_reducible refine w_lst ?_)
          (with_reducible refine w_cons ?_)
          (with_reducible refine w_c ?_)
          (with_reducible refine w_cons ?_)
          (with_reducible refine w_c ?_)
          (with_reducible refine w_cons ?_)
          (with_reducible refine w_un ?_)
          (with_reducible refine w_c ?_)
          (with_reducible refine w_U ?_)
          (with_reducible refine w_cons ?_)
          (with_reducible refine w_c ?_)
          (with_reducible refine w_cons ?_)
          (with_reducible refine w_c ?_)
          (with_reducible refine w_cons ?_)
          (with_reducible refine w_c ?_)
          (with_reducible refine w_cons ?_)
          (with_reducible refine w_c ?_)
          (with_reducible refine w_cons ?_)
          (with_reducible refine w_c ?_)
          (with_reducible refine w_cons ?_)
          (with_reducible refine w_un ?_)
          (with_reducible refine w_c ?_)
          (with_reducible refine w_U ?_)
          (with_reducible refine w_cons ?_)
          (with_reducible refine w_c ?_)
          (with_reducible refine w_nil ?_)
          refine w_kLst (by show 10 ≤ sizeLine; decide) fun l H3 nl s3 hl3 => ?_
          (with_reducible refine w_call ?_)
          (with_reducible refine w_cons ?_)
          ((with_reducible refine' w_var ?hv ?_); (case hv => exact rfl))
          (with_reducible refine w_cons ?_)
          (with_reducible refine w_c ?_)
          (with_reducible refine w_nil ?_)
          refine w_some (hP2.same s3) (by decide) (by decide) fun k H4 k0' k1' hP4 f4 => ?_
          obtain ⟨v, hv, hat⟩ := pick_any [V.int 0, V.int 1, V.int (-1), V.int 2, V.int 4, V.int 7, V.int 31, V.int 8191, V.int (-8192), V.int 255] k0' k1'
          obtain ⟨im, rfl⟩ : ∃ i, v = .int i := by
            simp only [List.mem_cons, List.not_mem_nil, or_false] at hv
            rcases hv with rfl | rfl | rfl | rfl | rfl | rfl | rfl | rfl | rfl | rfl <;> exact ⟨_, rfl⟩
          refine w_ixL (hP2.kept nl hl3 f4) hat ?_
          (with_reducible refine w_name ?_)
          (with_reducible refine w_drop ?_)
          (with_reducible refine w_call ?_)
          (with_reducible refine w_cons ?_)
          ((with_reducible refine' w_var ?hv ?_); (case hv => exact rfl))
          (with_reducible refine w_cons ?_)
          (with_reducible refine w_tup ?_)
          (with_reducible refine w_cons ?_)
          (with_reducible refine w_op ?_)
          (with_reducible refine w_call ?_)
          (with_reducible refine w_nil ?_)
          refine ⟨rfl, fun l2 H5 nl2 s5 hl5 => ?_⟩
          ((with_reducible refine' w_var ?hv ?_); (case hv => exact rfl))
          refine w_ixL (v := .str op) hl5 (atI_nat (by rw [List.getElem?_map, List.getElem?_map, hop]; rfl)) ?_
          (with_reducible refine w_cons ?_)
          ((with_reducible refine' w_var ?hv ?_); (case hv => exact rfl))
          (with_reducible refine w_cons ?_)
          ((with_reducible refine' w_var ?hv ?_); (case hv => exact rfl))
          (with_reducible refine w_cons ?_)
          ((with_reducible refine' w_var ?hv ?_); (case hv => exact rfl))
          (with_reducible refine w_nil ?_)
          refine w_kTup (by show 4 ≤ sizeLine; decide) fun t H6 nt s6 ht => ?_
          (with_reducible refine w_nil ?_)
          refine w_put ((hP4.same s5).same s6) (by omega) (rowIns (xs := [rd, ra, im]) n hop (by rw [show fm = _ from efm]; exact .dsi hrd hra) ht) fun H7 hP7 f7 => ?_
          skip
          exact q _ H7 hP7 (((f2.trans (.same s3 : FrP p S H2 H3) rfl rfl rfl).trans f4 rfl rfl rfl).trans ((FrP.same (s5.trans s6) : FrP p S H4 H6).trans f7 rfl rfl rfl) rfl rfl rfl)
        · (with_reducible refine w_drop ?_)
          (with_reducible refine w_call ?_)
          (with_reducible refine w_cons ?_)
          ((with_reducible refine' w_var ?hv ?_); (case hv => exact rfl))
          (with_reducible refine w_cons ?_)
          (with_reducible refine w_tup ?_)
          (with_reducible refine w_cons ?_)
          (with_reducible refine w_c ?_)
          (with_reducible refine w_cons ?_)
          ((with_reducible refine' w_var ?hv ?_); (case hv => exact rfl))
          (with_reducible refine w_cons ?_)
          (with_reducible refine w_op ?_)
          (with_reducible refine w_lst ?_)
          (with_reducible refine w_cons ?_)
          (with_reducible refine w_c ?_)
          (with_reducible refine w_cons ?_)
          (with_reducible refine w_c ?_)
          (with_reducible refine w_cons ?_)
          (with_reducible refine w_op ?_)
          (with_reducible refine w_op ?_)
          (with_reducible refine w_c ?_)
          (with_reducible refine w_c ?_)
          (with_reducible refine w_p18 ?_)
          (with_reducible refine w_c ?_)
          (with_reducible refine w_I0 ?_)
          (with_reducible refine w_cons ?_)
          (with_reducible refine w_c ?_)
          (with_reducible refine w_nil ?_)
          refine w_kLst (by show 4 ≤ sizeLine; decide) fun l H3 nl s3 hl3 => ?_
          (with_reducible refine w_call ?_)
          (with_reducible refine w_cons ?_)
          ((with_reducible refine' w_var ?hv ?_); (case hv => exact rfl))
          (with_reducible refine w_cons ?_)
          (with_reducible refine w_c ?_)
          (with_reducible refine w_nil ?_)
          refine w_some (hP2.same s3) (by decide) (by decide) fun k H4 k0' k1' hP4 f4 => ?_
          obtain ⟨v, hv, hat⟩ := pick_any [V.int 0, V.int 1, V.int (262144 - 1), V.int 77] k0' k1'
          obtain ⟨im, rfl⟩ : ∃ i, v = .int i := by
            simp only [List.mem_cons, List.not_mem_nil, or_false] at hv
            rcases hv with rfl | rfl | rfl | rfl <;> exact ⟨_, rfl⟩
          refine w_ixL (hP2.kept nl hl3 f4) hat ?_
          (with_reducible refine w_nil ?_)
          refine w_kTup (by show 3 ≤ sizeLine; decide) fun t H6 nt s6 ht => ?_
          (with_reducible refine w_nil ?_)
          refine w_put (hP4.same s6) (by omega) (rowIns (xs := [rd, im]) 21 rfl (.du hrd) ht) fun H7 hP7 f7 => ?_
          skip
          exact q _ H7 hP7 (((f2.trans (.same s3 : FrP p S H2 H3) rfl rfl rfl).trans f4 rfl rfl rfl).trans ((FrP.same s6 : FrP p S H4 H6).trans f7 rfl rfl rfl) rfl rfl rfl)
end
end K06

namespace K06
local macro_rules | `(tactic| walk_at "w1") => `(tactic| first
  | (with_reducible refine w_dget ?_)
  | (with_reducible refine w_dput ?_))
theorem sc_law_memory : FnScope ["p", "k", "size", "offset", "base", "word"] ["p"] (defScope s_law_memory) := ⟨rfl, rfl, rfl, by decide +kernel, rfl, by decide +kernel, by decide +kernel⟩
theorem sc_law_odd : FnScope ["p", "k"] ["p"] (defScope s_law_odd) := ⟨rfl, rfl, rfl, by decide +kernel, rfl, by decide +kernel, by decide +kernel⟩
theorem sc_law_call : FnScope ["p"] ["p"] (defScope s_law_call) := ⟨rfl, rfl, rfl, by decide +kernel, rfl, by decide +kernel, by decide +kernel⟩
def MemW (s : Str) : Prop := ∃ (n : Nat) (fm : Str), opsT[n]? = some (s, fm) ∧ ∀ a b c, R16 a → R16 b → RFits fm [a, b, c]
theorem mw_lb : MemW "lb" := ⟨23, "dsi", rfl, fun _ _ _ h1 h2 => .dsi h1 h2⟩
theorem mw_lbu : MemW "lbu" := ⟨24, "dsi", rfl, fun _ _ _ h1 h2 => .dsi h1 h2⟩
theorem mw_lw : MemW "lw" := ⟨22, "dsi", rfl, fun _ _ _ h1 h2 => .dsi h1 h2⟩
theorem mw_sw : MemW "sw" := ⟨25, "ssi", rfl, fun _ _ _ h1 h2 => .ssi h1 h2⟩
theorem mw_sb : MemW "sb" := ⟨26, "ssi", rfl, fun _ _ _ h1 h2 => .ssi h1 h2⟩
theorem rowTo {L : Nat} {H : Hp} {t t2 : Addr} {op fm : Str} {xs : List Int} {lb : Int} (n : Nat) (h1 : opsT[n]? = some (op, fm)) (h2 : ∀ z, RFits fm (xs ++ [z])) (h3 : H t = some (.tup (insV op xs ++ [.ref t2]))) (h4 : H t2 = some (.tup [.str "to", .int lb])) (h5 : 0 ≤ lb) (h6 : lb < L) : RowOk L H (.ref t) := ⟨t, rfl, .inr (.inl ⟨n, op, fm, xs, t2, lb, h1, h2, h3, h4, h5, h6⟩)⟩
/-- a row is put, the calls not too many -/
def spCall : Sp := fun vs H Q _ => ∃ (p : Addr) (S : PS), vs = [.ref p] ∧ PAt H p S ∧ S.code.length ≤ 99990 ∧ S.calls.length ≤ 100000 ∧ ∀ (v : V) H', PAt H' p { S with code := S.code ++ [v] } → FrP p S H H' → Q .non H'
section
variable {P : Program} {w : World} {K : PySem.W.Frag} {mg : Str → Option Value} {base : Heap}
theorem ok_law_memory (b_int : mg "int" = none) (c_law_some : Cd P w K mg base 2 "_law_some" spSome) (c_law_register : Cd P w K mg base 3 "_law_register" spReg) (c_law_put_word : Cd P w K mg base 1 "_law_put_word" spPut) (Z : St1 K mg "_law_memory" s_law_memory ["p"]) : Cd P w K mg base 4 "_law_memory" spOne := by
  refine Z.cd sc_law_memory (fun vs H Q E h => by obtain ⟨p, S, rfl, _⟩ := h; rfl) (fun f cdv A outer s H vs Q E hr h => ?_)
  obtain ⟨p, S, rfl, hP, hl, q⟩ := h
  refine ⟨_, (pss_cons (ps_set (i := 1) sc_law_memory.nd rfl (.inl rfl) (pe_cd c_law_some hr (by first | decide | omega) (by rfl) (pa_cons (pv 0) (pa_cons pe_int pa_nil))))
      (pss_cons (ps_set (i := 2) sc_law_memory.nd rfl (.inl rfl) (pe_cd c_law_some hr (by first | decide | omega) (by rfl) (pa_cons (pv 0) (pa_cons pe_int pa_nil))))
      (pss_cons (ps_set (i := 3) sc_law_memory.nd rfl (.inl rfl) (pe_op op_mul pe_int (pe_cd c_law_some hr (by first | decide | omega) (by rfl) (pa_cons (pv 0) (pa_cons pe_int pa_nil)))))
      (Evl.pss_cut (ps_if (pt_cmpR op_gt (pv 2) pe_int (nomark _)) (pss_one (ps_set (i := 3) sc_law_memory.nd rfl (.inl rfl) (pe_cd c_law_some hr (by first | decide | omega) (by rfl) (pa_cons (pv 0) (pa_cons pe_int pa_nil))))) pss_nil)
      (pss_cons (ps_set (i := 4) sc_law_memory.nd rfl (.inl rfl) pe_int)
      (Evl.pss_cut (ps_if (pt_cmpR op_gt (pv 1) pe_int (nomark _)) (pss_cons (ps_set (i := 4) sc_law_memory.nd rfl (.inl rfl) pe_int)
      (pss_one (ps_set (i := 3) sc_law_memory.nd rfl (.inl rfl) (pe_op op_mod (pe_callTy call_intQ (by rfl) b_int (by decide +kernel) (pa_cons (pv 3) pa_nil)) pe_int)))) pss_nil)
      (Evl.pss_cut (ps_if (pt_cmpR op_eq (pv 1) pe_int (nomark _)) (pss_one (ps_set (i := 4) sc_law_memory.nd rfl (.inl rfl) (pe_cd c_law_register hr (by first | decide | omega) (by rfl) (pa_cons (pv 0) pa_nil)))) pss_nil)
      (Evl.pss_cut (ps_if (pt_cmpR op_gt (pv 2) pe_int (nomark _)) (pss_one (ps_set (i := 5) sc_law_memory.nd rfl (.inl rfl) (pe_ix ix_list (pe_lst (pa_cons pe_str (pa_cons pe_str (pa_cons pe_str pa_nil)))) (pe_cd c_law_some hr (by first | decide | omega) (by rfl) (pa_cons (pv 0) (pa_cons pe_int pa_nil))) (fun _ _ => rfl)))) (pss_one (ps_set (i := 5) sc_law_memory.nd rfl (.inl rfl) (pe_ix ix_list (pe_lst (pa_cons pe_str (pa_cons pe_str pa_nil))) (pe_cd c_law_some hr (by first | decide | omega) (by rfl) (pa_cons (pv 0) (pa_cons pe_int pa_nil))) (fun _ _ => rfl)))))
      (Evl.pss_cut (ps_if (PW.pt (pw_and (pt_cmpR op_eq (pv 4) pe_int (nomark _)) (pw_and (pt_cmpR op_in_seq (pv 5) (pe_lst (pa_cons pe_str (pa_cons pe_str pa_nil))) rfl) (pw_and1 (pt_cmpR op_gt (pe_cd c_law_some hr (by first | decide | omega) (by rfl) (pa_cons (pv 0) (pa_cons pe_int pa_nil))) pe_int (nomark _)))))) (pss_one (ps_set (i := 5) sc_law_memory.nd rfl (.inl rfl) pe_str)) pss_nil)
      (Evl.pss_cut (ps_if (PW.pt (pw_and (pt_cmpR op_eq (pv 4) pe_int (nomark _)) (pw_and1 (pt_cmpR op_eq (pv 5) pe_str (nomark _))))) (pss_one (ps_set (i := 3) sc_law_memory.nd rfl (.inl rfl) (pe_op op_mul (pe_op op_fdiv (pv 3) pe_int) pe_int))) pss_nil)
      (pss_one (ps_expr (pe_cd c_law_put_word hr (by first | decide | omega) (by rfl) (pa_cons (pv 0) (pa_cons (pe_tup (pa_cons (pv 5) (pa_cons (pe_cd c_law_register hr (by first | decide | omega) (by rfl) (pa_cons (pv 0) pa_nil)) (pa_cons (pv 4) (pa_cons (pv 3) pa_nil))))) pa_nil))))))))))))))), ?_⟩
  (with_reducible refine w_seq ?_)
  (with_reducible refine w_asg ?_)
  (with_reducible refine w_call ?_)
  (with_reducible refine w_cons ?_)
  ((with_reducible refine' w_var ?hv ?_); (case hv => exact rfl))
  (with_reducible refine w_cons ?_)
  (with_reducible refine w_c ?_)
  (with_reducible refine w_nil ?_)
  refine w_some hP (by decide) (by decide) fun k H1 k0 k1 hP1 f1 => ?_
  (with_reducible refine w_name ?_)
  (with_reducible refine w_seq ?_)
  (with_reducible refine w_asg ?_)
  (with_reducible refine w_call ?_)
  (with_reducible refine w_cons ?_)
  ((with_reducible refine' w_var ?hv ?_); (case hv => exact rfl))
  (with_reducible refine w_cons ?_)
  (with_reducible refine w_c ?_)
  (with_reducible refine w_nil ?_)
  refine w_some hP1 (by decide) (by decide) fun size H2 z0 z1 hP2 f2 => ?_
  (with_reducible refine w_name ?_)
  (with_reducible refine w_seq ?_)
  (with_reducible refine w_asg ?_)
  (with_reducible refine w_op ?_)
  (with_reducible refine w_c ?_)
  (with_reducible refine w_call ?_)
  (with_reducible refine w_cons ?_)
  ((with_reducible refine' w_var ?hv ?_); (case hv => exact rfl))
  (with_reducible refine w_cons ?_)
  (with_reducible refine w_c ?_)
  (with_reducible refine w_nil ?_)
  refine w_some hP2 (by decide) (by decide) fun off H3 o0 o1 hP3 f3 => ?_
  have f123 := (f1.trans f2 rfl rfl rfl).trans f3 rfl rfl rfl
  ((with_reducible refine w_I ?hc ?_); (case hc => walk_at "side"))
  (with_reducible refine w_name ?_)
  refine Evl.q_cut (M := fun σ' H' => PAt H' p S ∧ FrP p S H H' ∧ ∃ o : Int, σ' = [some (.ref p), some (.int k), some (.int size), some (.int o), none, none]) ?_ ?_
  · (with_reducible refine w_ifS ?_)
    (with_reducible refine w_test ?_)
    (with_reducible refine w_op ?_)
    ((with_reducible refine' w_var ?hv ?_); (case hv => exact rfl))
    (with_reducible refine w_c ?_)
    (with_reducible refine w_I0 ?_)
    (with_reducible refine w_bl ?_)
    refine w_dec (fun e => ?_) (fun e => ?_)
    · (with_reducible refine w_asg ?_)
      (with_reducible refine w_call ?_)
      (with_reducible refine w_cons ?_)
      ((with_reducible refine' w_var ?hv ?_); (case hv => exact rfl))
      (with_reducible refine w_cons ?_)
      (with_reducible refine w_c ?_)
      (with_reducible refine w_nil ?_)
      refine w_some hP3 (by decide) (by decide) fun off H4 o0 o1 hP4 f4 => ?_
      (with_reducible refine w_name ?_)
      exact ⟨hP4, f123.trans f4 rfl rfl rfl, _, rfl⟩
    · (with_reducible refine w_next ?_)
      exact ⟨hP3, f123, _, rfl⟩
  · rintro σ' H4 ⟨hP4, f4, o, rfl⟩
    (with_reducible refine w_seq ?_)
    (with_reducible refine w_asg ?_)
    (with_reducible refine w_c ?_)
    (with_reducible refine w_name ?_)
    refine Evl.q_cut (M := fun σ' H' => PAt H' p S ∧ FrP p S H H' ∧ ∃ o b : Int, R16 b ∧ σ' = [some (.ref p), some (.int k), some (.int size), some (.int o), some (.int b), none]) ?_ ?_
    · refine w_ifS ?_
      (with_reducible refine w_test ?_)
      (with_reducible refine w_op ?_)
      ((with_reducible refine' w_var ?hv ?_); (case hv => exact rfl))
      (with_reducible refine w_c ?_)
      (with_reducible refine w_I0 ?_)
      (with_reducible refine w_bl ?_)
      refine w_dec (fun e => ?_) (fun e => ?_)
      · (with_reducible refine w_seq ?_)
        (with_reducible refine w_asg ?_)
        (with_reducible refine w_c ?_)
        (with_reducible refine w_name ?_)
        (with_reducible refine w_asg ?_)
        (with_reducible refine w_op ?_)
        (with_reducible refine w_cb ?_)
        (with_reducible refine w_cons ?_)
        ((with_reducible refine' w_var ?hv ?_); (case hv => exact rfl))
        (with_reducible refine w_nil ?_)
        (with_reducible refine w_int1 ?_)
        (with_reducible refine w_c ?_)
        ((with_reducible refine w_I ?hc ?_); (case hc => walk_at "side"))
        (with_reducible refine w_name ?_)
        exact ⟨hP4, f4, _, _, ⟨by decide, by decide⟩, rfl⟩
      · (with_reducible refine w_next ?_)
        exact ⟨hP4, f4, _, _, ⟨by decide, by decide⟩, rfl⟩
    · rintro σ' H5 ⟨hP5, f5, o2, b, hb, rfl⟩
      skip
      refine Evl.q_cut (M := fun σ' H' => PAt H' p S ∧ FrP p S H H' ∧ ∃ o b : Int, R16 b ∧ σ' = [some (.ref p), some (.int k), some (.int size), some (.int o), some (.int b), none]) ?_ ?_
      · (with_reducible refine w_ifS ?_)
        (with_reducible refine w_test ?_)
        (with_reducible refine w_op ?_)
        ((with_reducible refine' w_var ?hv ?_); (case hv => exact rfl))
        (with_reducible refine w_c ?_)
        (with_reducible refine w_eqI ?_)
        (with_reducible refine w_bl ?_)
        refine w_dec (fun e => ?_) (fun e => ?_)
        · (with_reducible refine w_asg ?_)
          (with_reducible refine w_call ?_)
          (with_reducible refine w_cons ?_)
          ((with_reducible refine' w_var ?hv ?_); (case hv => exact rfl))
          (with_reducible refine w_nil ?_)
          refine w_reg hP5 fun r H6 hr6 hP6 f6 => ?_
          (with_reducible refine w_name ?_)
          exact ⟨hP6, f5.trans f6 rfl rfl rfl, _, _, hr6, rfl⟩
        · (with_reducible refine w_next ?_)
          exact ⟨hP5, f5, _, _, hb, rfl⟩
      · rintro σ' H6 ⟨hP6, f6, o3, b2, hb2, rfl⟩
        skip
        refine Evl.q_cut (M := fun σ' H' => PAt H' p S ∧ FrP p S H H' ∧ ∃ wd : Str, MemW wd ∧ σ' = [some (.ref p), some (.int k), some (.int size), some (.int o3), some (.int b2), some (.str wd)]) ?_ ?_
        · (with_reducible refine w_ifS ?_)
          (with_reducible refine w_test ?_)
          (with_reducible refine w_op ?_)
          ((with_reducible refine' w_var ?hv ?_); (case hv => exact rfl))
          (with_reducible refine w_c ?_)
          (with_reducible refine w_I0 ?_)
          (with_reducible refine w_bl ?_)
          refine w_dec (fun e => ?_) (fun e => ?_)
          · (with_reducible refine w_asg ?_)
            (with_reducible refine w_op ?_)
            (with_reducible refine w_lst ?_)
            (with_reducible refine w_cons ?_)
            (with_reducible refine w_c ?_)
            (with_reducible refine w_cons ?_)
            (with_reducible refine w_c ?_)
            (with_reducible refine w_cons ?_)
            (with_reducible refine w_c ?_)
            (with_reducible refine w_nil ?_)
            refine w_kLst (by show 3 ≤ sizeLine; decide) fun l H7 nl s7 hl7 => ?_
            (with_reducible refine w_call ?_)
            (with_reducible refine w_cons ?_)
            ((with_reducible refine' w_var ?hv ?_); (case hv => exact rfl))
            (with_reducible refine w_cons ?_)
            (with_reducible refine w_c ?_)
            (with_reducible refine w_nil ?_)
            refine w_some (hP6.same s7) (by decide) (by decide) fun j H8 j0 j1 hP8 f8 => ?_
            obtain ⟨v, hv, hat⟩ := pick_any [V.str "lb", V.str "lbu", V.str "sb"] j0 j1
            obtain ⟨wd, hwd, rfl⟩ : ∃ i, MemW i ∧ v = .str i := by
              simp only [List.mem_cons, List.not_mem_nil, or_false] at hv
              rcases hv with rfl | rfl | rfl <;> first | exact ⟨_, mw_lb, rfl⟩ | exact ⟨_, mw_lbu, rfl⟩ | exact ⟨_, mw_sb, rfl⟩
            refine w_ixL (hP6.kept nl hl7 f8) hat ?_
            (with_reducible refine w_name ?_)
            exact ⟨hP8, (f6.trans (.same s7 : FrP p S H6 H7) rfl rfl rfl).trans f8 rfl rfl rfl, _, hwd, rfl⟩
          · (with_reducible refine w_asg ?_)
            (with_reducible refine w_op ?_)
            (with_reducible refine w_lst ?_)
            (with_reducible refine w_cons ?_)
            (with_reducible refine w_c ?_)
            (with_reducible refine w_cons ?_)
            (with_reducible refine w_c ?_)
            (with_reducible refine w_nil ?_)
            refine w_kLst (by show 2 ≤ sizeLine; decide) fun l H7 nl s7 hl7 => ?_
            (with_reducible refine w_call ?_)
            (with_reducible refine w_cons ?_)
            ((with_reducible refine' w_var ?hv ?_); (case hv => exact rfl))
            (with_reducible refine w_cons ?_)
            (with_reducible refine w_c ?_)
            (with_reducible refine w_nil ?_)
            refine w_some (hP6.same s7) (by decide) (by decide) fun j H8 j0 j1 hP8 f8 => ?_
            obtain ⟨v, hv, hat⟩ := pick_any [V.str "lw", V.str "sw"] j0 j1
            obtain ⟨wd, hwd, rfl⟩ : ∃ i, MemW i ∧ v = .str i := by
              simp only [List.mem_cons, List.not_mem_nil, or_false] at hv
              rcases hv with rfl | rfl <;> first | exact ⟨_, mw_lw, rfl⟩ | exact ⟨_, mw_sw, rfl⟩
            refine w_ixL (hP6.kept nl hl7 f8) hat ?_
            (with_reducible refine w_name ?_)
            exact ⟨hP8, (f6.trans (.same s7 : FrP p S H6 H7) rfl rfl rfl).trans f8 rfl rfl rfl, _, hwd, rfl⟩
        · rintro σ' H7 ⟨hP7, f7, wd, hwd, rfl⟩
          skip
          refine Evl.q_cut (M := fun σ' H' => PAt H' p S ∧ FrP p S H H' ∧ ∃ wd : Str, MemW wd ∧ σ' = [some (.ref p), some (.int k), some (.int size), some (.int o3), some (.int b2), some (.str wd)]) ?_ ?_
          · (with_reducible refine w_ifS ?_)
            (with_reducible refine w_andT ?_)
            (with_reducible refine w_test ?_)
            (with_reducible refine w_op ?_)
            ((with_reducible refine' w_var ?hv ?_); (case hv => exact rfl))
            (with_reducible refine w_c ?_)
            (with_reducible refine w_eqI ?_)
            (with_reducible refine w_bl ?_)
            refine w_dec (fun e => ?_) (fun e => ?_)
            · (with_reducible refine w_andT ?_)
              (with_reducible refine w_test ?_)
              (with_reducible refine w_op ?_)
              ((with_reducible refine' w_var ?hv ?_); (case hv => exact rfl))
              (with_reducible refine w_lst ?_)
              (with_reducible refine w_cons ?_)
              (with_reducible refine w_c ?_)
              (with_reducible refine w_cons ?_)
              (with_reducible refine w_c ?_)
              (with_reducible refine w_nil ?_)
              refine w_kLst (by show 2 ≤ sizeLine; decide) fun l H8 nl s8 hl8 => ?_
              refine w_inL (b := inV (.str wd) [.str "sw", .str "sb"]) hl8 rfl rfl rfl ?_
              (with_reducible refine w_bl ?_)
              refine w_bool (fun e => ?_) (fun e => ?_)
              · (with_reducible refine w_test ?_)
                (with_reducible refine w_op ?_)
                (with_reducible refine w_call ?_)
                (with_reducible refine w_cons ?_)
                ((with_reducible refine' w_var ?hv ?_); (case hv => exact rfl))
                (with_reducible refine w_cons ?_)
                (with_reducible refine w_c ?_)
                (with_reducible refine w_nil ?_)
                refine w_some (hP7.same s8) (by decide) (by decide) fun j H9 j0 j1 hP9 f9 => ?_
                have f79 := f7.trans ((FrP.same s8 : FrP p S H7 H8).trans f9 rfl rfl rfl) rfl rfl rfl
                (with_reducible refine w_c ?_)
                (with_reducible refine w_I0 ?_)
                (with_reducible refine w_bl ?_)
                refine w_dec (fun e => ?_) (fun e => ?_)
                · (with_reducible refine w_asg ?_)
                  (with_reducible refine w_c ?_)
                  (with_reducible refine w_name ?_)
                  exact ⟨hP9, f79, _, mw_lbu, rfl⟩
                · (with_reducible refine w_next ?_)
                  exact ⟨hP9, f79, _, hwd, rfl⟩
              · (with_reducible refine w_itF ?_)
                (with_reducible refine w_next ?_)
                exact ⟨hP7.same s8, f7.trans (.same s8 : FrP p S H7 H8) rfl rfl rfl, _, hwd, rfl⟩
            · (with_reducible refine w_itF ?_)
              (with_reducible refine w_next ?_)
              exact ⟨hP7, f7, _, hwd, rfl⟩
          · rintro σ' H8 ⟨hP8, f8, wd2, hwd2, rfl⟩
            skip
            refine Evl.q_cut (M := fun σ' H' => PAt H' p S ∧ FrP p S H H' ∧ ∃ o : Int, σ' = [some (.ref p), some (.int k), some (.int size), some (.int o), some (.int b2), some (.str wd2)]) ?_ ?_
            · (with_reducible refine w_ifS ?_)
              (with_reducible refine w_andT ?_)
              (with_reducible refine w_test ?_)
              (with_reducible refine w_op ?_)
              ((with_reducible refine' w_var ?hv ?_); (case hv => exact rfl))
              (with_reducible refine w_c ?_)
              (with_reducible refine w_eqI ?_)
              (with_reducible refine w_bl ?_)
              refine w_dec (fun e => ?_) (fun e => ?_)
              · (with_reducible refine w_test ?_)
                (with_reducible refine w_op ?_)
                ((with_reducible refine' w_var ?hv ?_); (case hv => exact rfl))
                (with_reducible refine w_c ?_)
                (with_reducible refine w_eqS ?_)
                (with_reducible refine w_bl ?_)
                refine w_bool (fun e => ?_) (fun e => ?_)
                · (with_reducible refine w_asg ?_)
                  (with_reducible refine w_op ?_)
                  (with_reducible refine w_op ?_)
                  ((with_reducible refine' w_var ?hv ?_); (case hv => exact rfl))
                  (with_reducible refine w_c ?_)
                  ((with_reducible refine w_I ?hc ?_); (case hc => walk_at "side"))
                  (with_reducible refine w_c ?_)
                  ((with_reducible refine w_I ?hc ?_); (case hc => walk_at "side"))
                  (with_reducible refine w_name ?_)
                  exact ⟨hP8, f8, _, rfl⟩
                · (with_reducible refine w_next ?_)
                  exact ⟨hP8, f8, _, rfl⟩
              · (with_reducible refine w_itF ?_)
                (with_reducible refine w_next ?_)
                exact ⟨hP8, f8, _, rfl⟩
            · rintro σ' H9 ⟨hP9, f9, o4, rfl⟩
              (with_reducible refine w_drop ?_)
              (with_reducible refine w_call ?_)
              (with_reducible refine w_cons ?_)
              ((with_reducible refine' w_var ?hv ?_); (case hv => exact rfl))
              (with_reducible refine w_cons ?_)
              (with_reducible refine w_tup ?_)
              (with_reducible refine w_cons ?_)
              ((with_reducible refine' w_var ?hv ?_); (case hv => exact rfl))
              (with_reducible refine w_cons ?_)
              (with_reducible refine w_call ?_)
              (with_reducible refine w_cons ?_)
              ((with_reducible refine' w_var ?hv ?_); (case hv => exact rfl))
              (with_reducible refine w_nil ?_)
              refine w_reg hP9 fun r H10 hr10 hP10 f10 => ?_
              (with_reducible refine w_cons ?_)
              ((with_reducible refine' w_var ?hv ?_); (case hv => exact rfl))
              (with_reducible refine w_cons ?_)
              ((with_reducible refine' w_var ?hv ?_); (case hv => exact rfl))
              (with_reducible refine w_nil ?_)
              refine w_kTup (by show 4 ≤ sizeLine; decide) fun t H11 nt s11 ht => ?_
              (with_reducible refine w_nil ?_)
              obtain ⟨n, fm, e1, e2⟩ := hwd2
              refine w_put (hP10.same s11) (by omega) (rowIns (xs := [r, b2, o4]) n e1 (e2 _ _ _ hr10 hb2) ht) fun H12 hP12 f12 => ?_
              skip
              exact q _ H12 hP12 ((f9.trans f10 rfl rfl rfl).trans ((FrP.same s11 : FrP p S H10 H11).trans f12 rfl rfl rfl) rfl rfl rfl)
theorem ok_law_odd (c_law_some : Cd P w K mg base 2 "_law_some" spSome) (c_law_register : Cd P w K mg base 3 "_law_register" spReg) (c_law_put_word : Cd P w K mg base 1 "_law_put_word" spPut) (Z : St1 K mg "_law_odd" s_law_odd ["p"]) : Cd P w K mg base 4 "_law_odd" spOne := by
  refine Z.cd sc_law_odd (fun vs H Q E h => by obtain ⟨p, S, rfl, _⟩ := h; rfl) (fun f cdv A outer s H vs Q E hr h => ?_)
  obtain ⟨p, S, rfl, hP, hl, q⟩ := h
  refine ⟨_, (pss_cons (ps_set (i := 1) sc_law_odd.nd rfl (.inl rfl) (pe_cd c_law_some hr (by first | decide | omega) (by rfl) (pa_cons (pv 0) (pa_cons pe_int pa_nil))))
      (pss_one (ps_if (pt_cmpR op_eq (pv 1) pe_int (nomark _)) (pss_one (ps_expr (pe_cd c_law_put_word hr (by first | decide | omega) (by rfl) (pa_cons (pv 0) (pa_cons (pe_tup (pa_cons pe_str (pa_cons (pe_ix ix_list (pe_lst (pa_cons pe_int (pa_cons (pe_op op_sub (pe_op op_pow pe_int pe_int) pe_int) (pa_cons (pe_op op_add (pe_op op_pow pe_int pe_int) pe_int) pa_nil)))) (pe_cd c_law_some hr (by first | decide | omega) (by rfl) (pa_cons (pv 0) (pa_cons pe_int pa_nil))) (fun _ _ => rfl)) pa_nil))) pa_nil))))) (pss_one (ps_if (pt_cmpR op_eq (pv 1) pe_int (nomark _)) (pss_one (ps_expr (pe_cd c_law_put_word hr (by first | decide | omega) (by rfl) (pa_cons (pv 0) (pa_cons (pe_tup (pa_cons pe_str (pa_cons (pe_ix ix_list (pe_lst (pa_cons pe_int (pa_cons pe_int (pa_cons pe_int pa_nil)))) (pe_cd c_law_some hr (by first | decide | omega) (by rfl) (pa_cons (pv 0) (pa_cons pe_int pa_nil))) (fun _ _ => rfl)) (pa_cons (pe_cd c_law_register hr (by first | decide | omega) (by rfl) (pa_cons (pv 0) pa_nil)) (pa_cons (pe_op op_mul pe_int (pe_cd c_law_some hr (by first | decide | omega) (by rfl) (pa_cons (pv 0) (pa_cons pe_int pa_nil)))) pa_nil))))) pa_nil))))) (pss_one (ps_if (pt_cmpR op_eq (pv 1) pe_int (nomark _)) (pss_one (ps_expr (pe_cd c_law_put_word hr (by first | decide | omega) (by rfl) (pa_cons (pv 0) (pa_cons (pe_tup (pa_cons pe_str (pa_cons (pe_cd c_law_register hr (by first | decide | omega) (by rfl) (pa_cons (pv 0) pa_nil)) pa_nil))) pa_nil))))) (pss_one (ps_expr (pe_cd c_law_put_word hr (by first | decide | omega) (by rfl) (pa_cons (pv 0) (pa_cons (pe_tup (pa_cons pe_str (pa_cons (pe_cd c_law_register hr (by first | decide | omega) (by rfl) (pa_cons (pv 0) pa_nil)) (pa_cons pe_int pa_nil)))) pa_nil)))))))))))), ?_⟩
  (with_reducible refine w_seq ?_)
  (with_reducible refine w_asg ?_)
  (with_reducible refine w_call ?_)
  (with_reducible refine w_cons ?_)
  ((with_reducible refine' w_var ?hv ?_); (case hv => exact rfl))
  (with_reducible refine w_cons ?_)
  (with_reducible refine w_c ?_)
  (with_reducible refine w_nil ?_)
  refine w_some hP (by decide) (by decide) fun k H1 k0 k1 hP1 f1 => ?_
  (with_reducible refine w_name ?_)
  (with_reducible refine w_ifS ?_)
  (with_reducible refine w_test ?_)
  (with_reducible refine w_op ?_)
  ((with_reducible refine' w_var ?hv ?_); (case hv => exact rfl))
  (with_reducible refine w_c ?_)
  (with_reducible refine w_eqI ?_)
  (with_reducible refine w_bl ?_)
  refine w_dec (fun e => ?_) (fun e => ?_)
  · (with_reducible refine w_drop ?_)
    (with_reducible refine w_call ?_)
    (with_reducible refine w_cons ?_)
    ((with_reducible refine' w_var ?hv ?_); (case hv => exact rfl))
    (with_reducible refine w_cons ?_)
    (with_reducible refine w_tup ?_)
    (with_reducible refine w_cons ?_)
    (with_reducible refine w_c ?_)
    (with_reducible refine w_cons ?_)
    (with_reducible refine w_op ?_)
    (with_reducible refine w_lst ?_)
    (with_reducible refine w_cons ?_)
    (with_reducible refine w_c ?_)
    (with_reducible refine w_cons ?_)
    (with_reducible refine w_op ?_)
    (with_reducible refine w_op ?_)
    (with_reducible refine w_c ?_)
    (with_reducible refine w_c ?_)
    (with_reducible refine w_p32 ?_)
    (with_reducible refine w_c ?_)
    (with_reducible refine w_I0 ?_)
    (with_reducible refine w_cons ?_)
    (with_reducible refine w_op ?_)
    (with_reducible refine w_op ?_)
    (with_reducible refine w_c ?_)
    (with_reducible refine w_c ?_)
    (with_reducible refine w_p26 ?_)
    (with_reducible refine w_c ?_)
    (with_reducible refine w_I0 ?_)
    (with_reducible refine w_nil ?_)
    refine w_kLst (by show 3 ≤ sizeLine; decide) fun l H3 nl s3 hl3 => ?_
    (with_reducible refine w_call ?_)
    (with_reducible refine w_cons ?_)
    ((with_reducible refine' w_var ?hv ?_); (case hv => exact rfl))
    (with_reducible refine w_cons ?_)
    (with_reducible refine w_c ?_)
    (with_reducible refine w_nil ?_)
    refine w_some (hP1.same s3) (by decide) (by decide) fun k H4 k0' k1' hP4 f4 => ?_
    obtain ⟨v, hv, hat⟩ := pick_any [V.int 0, V.int (4294967296 - 1), V.int (67108864 + 1)] k0' k1'
    obtain ⟨im, h0, h1, rfl⟩ : ∃ i : Int, 0 ≤ i ∧ i < 4294967296 ∧ v = .int i := by
      simp only [List.mem_cons, List.not_mem_nil, or_false] at hv
      rcases hv with rfl | rfl | rfl <;> exact ⟨_, by decide, by decide, rfl⟩
    refine w_ixL (hP1.kept nl hl3 f4) hat ?_
    (with_reducible refine w_nil ?_)
    refine w_kTup (by show 2 ≤ sizeLine; decide) fun t H6 nt s6 ht => ?_
    (with_reducible refine w_nil ?_)
    refine w_put (hP4.same s6) (by omega) ⟨t, rfl, .inr (.inr ⟨im, h0, h1, ht⟩)⟩ fun H7 hP7 f7 => ?_
    skip
    exact q _ H7 hP7 (((f1.trans (.same s3 : FrP p S H1 H3) rfl rfl rfl).trans f4 rfl rfl rfl).trans ((FrP.same s6 : FrP p S H4 H6).trans f7 rfl rfl rfl) rfl rfl rfl)
  · (with_reducible refine w_ifS ?_)
    (with_reducible refine w_test ?_)
    (with_reducible refine w_op ?_)
    ((with_reducible refine' w_var ?hv ?_); (case hv => exact rfl))
    (with_reducible refine w_c ?_)
    (with_reducible refine w_eqI ?_)
    (with_reducible refine w_bl ?_)
    refine w_dec (fun e => ?_) (fun e => ?_)
    · (with_reducible refine w_drop ?_)
      (with_reducible refine w_call ?_)
      (with_reducible refine w_cons ?_)
      ((with_reducible refine' w_var ?hv ?_); (case hv => exact rfl))
      (with_reducible refine w_cons ?_)
      (with_reducible refine w_tup ?_)
      (with_reducible refine w_cons ?_)
      (with_reducible refine w_c ?_)
      (with_reducible refine w_cons ?_)
      (with_reducible refine w_op ?_)
      (with_reducible refine w_lst ?_)
      (with_reducible refine w_cons ?_)
      (with_reducible refine w_c ?_)
      (with_reducible refine w_cons ?_)
      (with_reducible refine w_c ?_)
      (with_reducible refine w_cons ?_)
      (with_reducible refine w_c ?_)
      (with_reducible refine w_nil ?_)
      refine w_kLst (by show 3 ≤ sizeLine; decide) fun l H3 nl s3 hl3 => ?_
      (with_reducible refine w_call ?_)
      (with_reducible refine w_cons ?_)
      ((with_reducible refine' w_var ?hv ?_); (case hv => exact rfl))
      (with_reducible refine w_cons ?_)
      (with_reducible refine w_c ?_)
      (with_reducible refine w_nil ?_)
      refine w_some (hP1.same s3) (by decide) (by decide) fun k H4 k0' k1' hP4 f4 => ?_
      obtain ⟨v, hv, hat⟩ := pick_any [V.int 0, V.int 15, V.int 3] k0' k1'
      obtain ⟨im, h0, rfl⟩ : ∃ i : Int, R16 i ∧ v = .int i := by
        simp only [List.mem_cons, List.not_mem_nil, or_false] at hv
        rcases hv with rfl | rfl | rfl <;> exact ⟨_, ⟨by decide, by decide⟩, rfl⟩
      refine w_ixL (hP1.kept nl hl3 f4) hat ?_
      (with_reducible refine w_cons ?_)
      (with_reducible refine w_call ?_)
      (with_reducible refine w_cons ?_)
      ((with_reducible refine' w_var ?hv ?_); (case hv => exact rfl))
      (with_reducible refine w_nil ?_)
      refine w_reg hP4 fun r H5 hr5 hP5 f5 => ?_
      (with_reducible refine w_cons ?_)
      (with_reducible refine w_op ?_)
      (with_reducible refine w_c ?_)
      (with_reducible refine w_call ?_)
      (with_reducible refine w_cons ?_)
      ((with_reducible refine' w_var ?hv ?_); (case hv => exact rfl))
      (with_reducible refine w_cons ?_)
      (with_reducible refine w_c ?_)
      (with_reducible refine w_nil ?_)
      refine w_some hP5 (by decide) (by decide) fun o H6 _ _ hP6 f6 => ?_
      ((with_reducible refine w_I ?hc ?_); (case hc => walk_at "side"))
      (with_reducible refine w_nil ?_)
      refine w_kTup (by show 4 ≤ sizeLine; decide) fun t H7 nt s7 ht => ?_
      (with_reducible refine w_nil ?_)
      refine w_put (hP6.same s7) (by omega) (rowIns (xs := [im, r, 4 * o]) 34 rfl (.dsi h0 hr5) ht) fun H8 hP8 f8 => ?_
      skip
      exact q _ H8 hP8 (((((f1.trans (.same s3 : FrP p S H1 H3) rfl rfl rfl).trans f4 rfl rfl rfl).trans f5 rfl rfl rfl).trans f6 rfl rfl rfl).trans ((FrP.same s7 : FrP p S H6 H7).trans f8 rfl rfl rfl) rfl rfl rfl)
    · (with_reducible refine w_ifS ?_)
      (with_reducible refine w_test ?_)
      (with_reducible refine w_op ?_)
      ((with_reducible refine' w_var ?hv ?_); (case hv => exact rfl))
      (with_reducible refine w_c ?_)
      (with_reducible refine w_eqI ?_)
      (with_reducible refine w_bl ?_)
      refine w_dec (fun e => ?_) (fun e => ?_)
      · (with_reducible refine w_drop ?_)
        (with_reducible refine w_call ?_)
        (with_reducible refine w_cons ?_)
        ((with_reducible refine' w_var ?hv ?_); (case hv => exact rfl))
        (with_reducible refine w_cons ?_)
        (with_reducible refine w_tup ?_)
        (with_reducible refine w_cons ?_)
        (with_reducible refine w_c ?_)
        (with_reducible refine w_cons ?_)
        (with_reducible refine w_call ?_)
        (with_reducible refine w_cons ?_)
        ((with_reducible refine' w_var ?hv ?_); (case hv => exact rfl))
        (with_reducible refine w_nil ?_)
        refine w_reg hP1 fun r H5 hr5 hP5 f5 => ?_
        (with_reducible refine w_nil ?_)
        refine w_kTup (by show 2 ≤ sizeLine; decide) fun t H7 nt s7 ht => ?_
        (with_reducible refine w_nil ?_)
        refine w_put (hP5.same s7) (by omega) (rowIns (xs := [r]) 37 rfl (.s hr5) ht) fun H8 hP8 f8 => ?_
        skip
        exact q _ H8 hP8 ((f1.trans f5 rfl rfl rfl).trans ((FrP.same s7 : FrP p S H5 H7).trans f8 rfl rfl rfl) rfl rfl rfl)
      · (with_reducible refine w_drop ?_)
        (with_reducible refine w_call ?_)
        (with_reducible refine w_cons ?_)
        ((with_reducible refine' w_var ?hv ?_); (case hv => exact rfl))
        (with_reducible refine w_cons ?_)
        (with_reducible refine w_tup ?_)
        (with_reducible refine w_cons ?_)
        (with_reducible refine w_c ?_)
        (with_reducible refine w_cons ?_)
        (with_reducible refine w_call ?_)
        (with_reducible refine w_cons ?_)
        ((with_reducible refine' w_var ?hv ?_); (case hv => exact rfl))
        (with_reducible refine w_nil ?_)
        refine w_reg hP1 fun r H5 hr5 hP5 f5 => ?_
        (with_reducible refine w_cons ?_)
        (with_reducible refine w_c ?_)
        (with_reducible refine w_nil ?_)
        refine w_kTup (by show 3 ≤ sizeLine; decide) fun t H7 nt s7 ht => ?_
        (with_reducible refine w_nil ?_)
        refine w_put (hP5.same s7) (by omega) (rowIns (xs := [r, 1]) 33 rfl (.dj hr5) ht) fun H8 hP8 f8 => ?_
        skip
        exact q _ H8 hP8 ((f1.trans f5 rfl rfl rfl).trans ((FrP.same s7 : FrP p S H5 H7).trans f8 rfl rfl rfl) rfl rfl rfl)
theorem ok_law_call (b_len : mg "len" = none) (c_law_some : Cd P w K mg base 2 "_law_some" spSome) (c_law_alu : Cd P w K mg base 4 "_law_alu" spOne) (c_law_put_word : Cd P w K mg base 1 "_law_put_word" spPut) (Z : St1 K mg "_law_call" s_law_call ["p"]) : Cd P w K mg base 5 "_law_call" spCall := by
  refine Z.cd sc_law_call (fun vs H Q E h => by obtain ⟨p, S, rfl, _⟩ := h; rfl) (fun f cdv A outer s H vs Q E hr h => ?_)
  obtain ⟨p, S, rfl, hP, hl, hcl, q⟩ := h
  have hu := hu_of hr
  refine ⟨_, (pss_one (ps_if (pt_cmpR op_eq (pe_callB call_lenQ (by rfl) b_len PySem.boot_len (pa_cons (pe_dget hu (pv 0) pe_str (fun _ _ => rfl)) pa_nil)) pe_int (nomark _)) (pss_one (ps_expr (pe_cd c_law_alu hr (by first | decide | omega) (by rfl) (pa_cons (pv 0) pa_nil)))) (pss_one (ps_expr (pe_cd c_law_put_word hr (by first | decide | omega) (by rfl) (pa_cons (pv 0) (pa_cons (pe_tup (pa_cons pe_str (pa_cons pe_int (pa_cons (pe_tup (pa_cons pe_str (pa_cons (pe_ix ix_list (pe_dget hu (pv 0) pe_str (fun _ _ => rfl)) (pe_cd c_law_some hr (by first | decide | omega) (by rfl) (pa_cons (pv 0) (pa_cons (pe_callB call_lenQ (by rfl) b_len PySem.boot_len (pa_cons (pe_dget hu (pv 0) pe_str (fun _ _ => rfl)) pa_nil)) pa_nil))) (fun _ _ => rfl)) pa_nil))) pa_nil)))) pa_nil))))))), ?_⟩
  (with_reducible refine w_ifS ?_)
  (with_reducible refine w_test ?_)
  (with_reducible refine w_op ?_)
  (with_reducible refine w_cb ?_)
  (with_reducible refine w_cons ?_)
  (with_reducible refine w_dget ?_)
  ((with_reducible refine' w_var ?hv ?_); (case hv => exact rfl))
  (with_reducible refine w_c ?_)
  refine w_kDG hP.hp rfl ?_
  have hc := hP.hcl
  (with_reducible refine w_nil ?_)
  ((with_reducible refine' w_lenL ?hh ?_); (case hh => assumption))
  (with_reducible refine w_c ?_)
  (with_reducible refine w_eqI ?_)
  (with_reducible refine w_bl ?_)
  refine w_dec (fun e => ?_) (fun e => ?_)
  · (with_reducible refine w_drop ?_)
    (with_reducible refine w_call ?_)
    (with_reducible refine w_cons ?_)
    ((with_reducible refine' w_var ?hv ?_); (case hv => exact rfl))
    (with_reducible refine w_nil ?_)
    refine ⟨p, S, rfl, hP, hl, fun v H1 hP1 f1 => ?_⟩
    skip
    exact q _ H1 hP1 f1
  · (with_reducible refine w_drop ?_)
    (with_reducible refine w_call ?_)
    (with_reducible refine w_cons ?_)
    ((with_reducible refine' w_var ?hv ?_); (case hv => exact rfl))
    (with_reducible refine w_cons ?_)
    (with_reducible refine w_tup ?_)
    (with_reducible refine w_cons ?_)
    (with_reducible refine w_c ?_)
    (with_reducible refine w_cons ?_)
    (with_reducible refine w_c ?_)
    (with_reducible refine w_cons ?_)
    (with_reducible refine w_tup ?_)
    (with_reducible refine w_cons ?_)
    (with_reducible refine w_c ?_)
    (with_reducible refine w_cons ?_)
    (with_reducible refine w_op ?_)
    (with_reducible refine w_dget ?_)
    ((with_reducible refine' w_var ?hv ?_); (case hv => exact rfl))
    (with_reducible refine w_c ?_)
    refine w_kDG hP.hp rfl ?_
    (with_reducible refine w_call ?_)
    (with_reducible refine w_cons ?_)
    ((with_reducible refine' w_var ?hv ?_); (case hv => exact rfl))
    (with_reducible refine w_cons ?_)
    (with_reducible refine w_cb ?_)
    (with_reducible refine w_cons ?_)
    (with_reducible refine w_dget ?_)
    ((with_reducible refine' w_var ?hv ?_); (case hv => exact rfl))
    (with_reducible refine w_c ?_)
    refine w_kDG hP.hp rfl ?_
    (with_reducible refine w_nil ?_)
    ((with_reducible refine' w_lenL ?hh ?_); (case hh => assumption))
    (with_reducible refine w_nil ?_)
    refine w_some hP (by rw [List.length_map] at e ⊢; omega) (by rw [List.length_map]; omega) fun j H4 j0 j1 hP4 f4 => ?_
    obtain ⟨v, hv, hat⟩ := pick_any _ j0 j1
    obtain ⟨lb, hlb, rfl⟩ := List.mem_map.mp hv
    refine w_ixL (hP4.hcl) hat ?_
    (with_reducible refine w_nil ?_)
    refine w_kTup (by show 2 ≤ sizeLine; decide) fun t H6 nt s6 ht => ?_
    (with_reducible refine w_nil ?_)
    refine w_kTup (by show 3 ≤ sizeLine; decide) fun t2 H7 nt2 s7 ht2 => ?_
    (with_reducible refine w_nil ?_)
    refine w_put ((hP4.same s6).same s7) (by omega) (rowTo (xs := [15]) 33 rfl (fun z => .dj ⟨by decide, by decide⟩) ht2 (s7 _ _ ht) (hP.cls _ hlb).1 (hP.cls _ hlb).2) fun H8 hP8 f8 => ?_
    skip
    exact q _ H8 hP8 (f4.trans ((FrP.same (s6.trans s7) : FrP p S H4 H7).trans f8 rfl rfl rfl) rfl rfl rfl)
end
end K06

namespace K06
local macro_rules | `(tactic| walk_at "w1") => `(tactic| first
  | (with_reducible refine w_dget ?_)
  | (with_reducible refine w_dput ?_))
theorem sc_law_if : FnScope ["p", "depth", "word", "rb", "other", "last"] ["p", "depth"] (defScope s_law_if) := ⟨rfl, rfl, rfl, by decide +kernel, rfl, by decide +kernel, by decide +kernel⟩
theorem sc_law_loop : FnScope ["p", "depth", "counter", "top"] ["p", "depth"] (defScope s_law_loop) := ⟨rfl, rfl, rfl, by decide +kernel, rfl, by decide +kernel, by decide +kernel⟩
theorem sc_law_switch : FnScope ["p", "depth", "first", "second", "last", "index"] ["p", "depth"] (defScope s_law_switch) := ⟨rfl, rfl, rfl, by decide +kernel, rfl, by decide +kernel, by decide +kernel⟩
theorem sc_law_rows : FnScope ["p", "depth", "k", "what"] ["p", "depth"] (defScope s_law_rows) := ⟨rfl, rfl, rfl, by decide +kernel, rfl, by decide +kernel, by decide +kernel⟩
theorem w_cat {l b : Addr} {xs zs : List V} {H : Hp} {Q : VK} (h1 : H l = some (.lst xs)) (h2 : H b = some (.lst zs)) (hl : xs.length + zs.length ≤ sizeLine) (q : ∀ p H', H p = none → Same H H' → H' p = some (.lst (xs ++ zs)) → Q (.ref p) H') : rCat (.ref l) (.ref b) H Q :=
  ⟨l, b, xs, zs, rfl, rfl, h1, h2, hl, fun p np => q p _ np (fun b x e => by rw [upd_ne (ne_of_none e np)]; exact e) upd_same⟩
theorem PAt.table {H H' : Hp} {p t : Addr} {S : PS} {ts : List Int} (h : PAt H p S) (b : But p H H') (hp : H' p = some (.dK (pD (.ref S.d) (.ref S.c) (.ref S.a) (.ref S.cl) (.ref t) (.int S.left)))) (ht : H t = some (.lst (ts.map V.int))) (n1 : t ≠ S.d) (n2 : t ≠ S.c) (n3 : t ≠ S.a) (hts : ∀ l ∈ ts, 0 ≤ l ∧ l < S.at_.length) : PAt H' p { S with tb := t, tbl := ts } ∧ FrP p S H H' := by
  obtain ⟨xs, hx⟩ := h.hdl
  obtain ⟨ys, hy⟩ := h.hccl
  refine ⟨{ h with hp := hp, hd := h.hd.keep (fun o => b _ o (h.nep hx)) (fun o => b _ o (h.nep hy)), hc := b _ _ (h.nep h.hc) h.hc, ha := b _ _ (h.nep h.ha) h.ha, hcl := b _ _ (h.nep h.hcl) h.hcl, htb := b _ _ (h.nep ht) ht, td := n1, tc := n2, ta := n3, rows := fun v hv => (h.rows v hv).keep (.dic b h.hp) (Nat.le_refl _), tls := hts }, fun q o h1 _ _ _ e => b q o h1 e⟩
theorem PAt.lft {H H' : Hp} {p : Addr} {S : PS} {n : Int} (h : PAt H p S) (b : But p H H') (hp : H' p = some (.dK (pD (.ref S.d) (.ref S.c) (.ref S.a) (.ref S.cl) (.ref S.tb) (.int n)))) (hn : 0 ≤ n) : PAt H' p { S with left := n } ∧ FrP p S H H' := by
  obtain ⟨xs, hx⟩ := h.hdl
  obtain ⟨ys, hy⟩ := h.hccl
  refine ⟨{ h with hp := hp, hd := h.hd.keep (fun o => b _ o (h.nep hx)) (fun o => b _ o (h.nep hy)), hc := b _ _ (h.nep h.hc) h.hc, ha := b _ _ (h.nep h.ha) h.ha, hcl := b _ _ (h.nep h.hcl) h.hcl, htb := b _ _ (h.nep h.htb) h.htb, rows := fun v hv => (h.rows v hv).keep (.dic b h.hp) (Nat.le_refl _), lf := hn }, fun q o h1 _ _ _ e => b q o h1 e⟩
/-- what is reached from S, with so much more code, labels, table -/
structure Rch (p : Addr) (S : PS) (H : Hp) (c a t : Nat) (S' : PS) (H' : Hp) : Prop where
  pt : PAt H' p S'
  fr : FrP p S H H'
  ed : S'.d = S.d
  ec : S'.c = S.c
  ea : S'.a = S.a
  ek : S'.cc = S.cc
  el : S'.cl = S.cl
  eq : S'.calls = S.calls
  al : S.at_.length ≤ S'.at_.length
  cg : S.code.length ≤ S'.code.length
  lf : S'.left ≤ S.left
  c6 : (S'.code.length : Int) + 6 * S'.left ≤ S.code.length + 6 * S.left + c
  a6 : (S'.at_.length : Int) + 6 * S'.left ≤ S.at_.length + 6 * S.left + a
  t6 : (S'.tbl.length : Int) + 6 * S'.left ≤ S.tbl.length + 6 * S.left + t
structure Tot (S : PS) (m : Int) : Prop where
  c : (S.code.length : Int) + 6 * S.left ≤ m
  a : (S.at_.length : Int) + 6 * S.left ≤ m
  t : (S.tbl.length : Int) + 6 * S.left ≤ m
  l : S.calls.length ≤ 90000
theorem Rch.refl {p : Addr} {S : PS} {H : Hp} (h : PAt H p S) : Rch p S H 0 0 0 S H := ⟨h, fun _ _ _ _ _ _ e => e, rfl, rfl, rfl, rfl, rfl, rfl, Nat.le_refl _, Nat.le_refl _, Int.le_refl _, by omega, by omega, by omega⟩
theorem Rch.trans {p : Addr} {S S1 S2 : PS} {H H1 H2 : Hp} {c a t c' a' t' : Nat} (x : Rch p S H c a t S1 H1) (y : Rch p S1 H1 c' a' t' S2 H2) : Rch p S H (c + c') (a + a') (t + t') S2 H2 := by
  have := x.al; have := x.lf; have := x.c6; have := x.a6; have := x.t6
  have := y.al; have := y.lf; have := y.c6; have := y.a6; have := y.t6
  exact ⟨y.pt, x.fr.trans y.fr x.ed x.ec x.ea, y.ed.trans x.ed, y.ec.trans x.ec, y.ea.trans x.ea, y.ek.trans x.ek, y.el.trans x.el, y.eq.trans x.eq, by omega, Nat.le_trans x.cg y.cg, by omega, by omega, by omega, by omega⟩
theorem Rch.weak {p : Addr} {S S1 : PS} {H H1 : Hp} {c a t c' a' t' : Nat} (x : Rch p S H c a t S1 H1) (h1 : c ≤ c') (h2 : a ≤ a') (h3 : t ≤ t') : Rch p S H c' a' t' S1 H1 := by
  have := x.al; have := x.lf; have := x.c6; have := x.a6; have := x.t6
  exact { x with c6 := by omega, a6 := by omega, t6 := by omega }
theorem Rch.tot {p : Addr} {S S1 : PS} {H H1 : Hp} {c a t : Nat} {m : Int} (n : Nat) (x : Rch p S H c a t S1 H1) (h : Tot S m) (h1 : c ≤ n) (h2 : a ≤ n) (h3 : t ≤ n) : Tot S1 (m + n) := by
  have := x.al; have := x.lf; have := x.c6; have := x.a6; have := x.t6
  have := h.c; have := h.a; have := h.t
  exact ⟨by omega, by omega, by omega, by rw [x.eq]; exact h.l⟩
theorem Rch.of {p : Addr} {S S1 : PS} {H H1 H2 : Hp} {c a t : Nat} (x : Rch p S H c a t S1 H1) (h : PAt H2 p S1) (f : FrP p S1 H1 H2) : Rch p S H c a t S1 H2 := { x with pt := h, fr := x.fr.trans f x.ed x.ec x.ea }
theorem Rch.sm {p : Addr} {S S1 : PS} {H H1 H2 : Hp} {c a t : Nat} (x : Rch p S H c a t S1 H1) (s : Same H1 H2) : Rch p S H c a t S1 H2 := x.of (x.pt.same s) (.same s)
theorem Rch.cod {p : Addr} {S S1 : PS} {H H1 H2 : Hp} {c a t : Nat} (x : Rch p S H c a t S1 H1) {v : V} (h : PAt H2 p { S1 with code := S1.code ++ [v] }) (f : FrP p S1 H1 H2) : Rch p S H (c + 1) a t { S1 with code := S1.code ++ [v] } H2 := by
  have := x.c6; have := x.cg
  exact { x with pt := h, fr := x.fr.trans f x.ed x.ec x.ea, cg := by show S.code.length ≤ (S1.code ++ [v]).length; rw [List.length_append]; omega, c6 := by show ((S1.code ++ [v]).length : Int) + _ ≤ _; rw [List.length_append]; simp only [List.length_cons, List.length_nil]; show ((S1.code.length + (0 + 1) : Nat) : Int) + 6 * S1.left ≤ _; omega }
theorem Rch.lab {p : Addr} {S S1 : PS} {H H1 H2 : Hp} {c a t : Nat} (x : Rch p S H c a t S1 H1) {ls : List Int} (n : Nat) (h : PAt H2 p { S1 with at_ := ls }) (f : FrP p S1 H1 H2) (e : ls.length = S1.at_.length + n) : Rch p S H c (a + n) t { S1 with at_ := ls } H2 := by
  have := x.a6; have := x.al
  exact { x with pt := h, fr := x.fr.trans f x.ed x.ec x.ea, al := by show S.at_.length ≤ ls.length; omega, a6 := by show (ls.length : Int) + 6 * S1.left ≤ _; omega }
theorem Rch.tab {p : Addr} {S S1 : PS} {H H1 H2 : Hp} {c a t : Nat} (x : Rch p S H c a t S1 H1) {u : Addr} {ts : List Int} (n : Nat) (h : PAt H2 p { S1 with tb := u, tbl := ts }) (f : FrP p S1 H1 H2) (e : ts.length = S1.tbl.length + n) : Rch p S H c a (t + n) { S1 with tb := u, tbl := ts } H2 := by
  have := x.t6
  exact { x with pt := h, fr := x.fr.trans f x.ed x.ec x.ea, t6 := by show (ts.length : Int) + 6 * S1.left ≤ _; omega }
theorem Rch.dec {p : Addr} {S S1 S3 : PS} {H H1 H2 H3 : Hp} (x : Rch p S H 0 0 0 S1 H1) (f : FrP p S1 H1 H2) (y : Rch p { S1 with left := S1.left - 1 } H2 6 6 6 S3 H3) : Rch p S H 0 0 0 S3 H3 := by
  have := x.al; have := x.lf; have := x.c6; have := x.a6; have := x.t6
  obtain ⟨y1, y2, y3, y4, y5, y6, y7, y8, y9, y14, y10, y11, y12, y13⟩ := y
  dsimp only at y3 y4 y5 y6 y7 y8 y9 y14 y10 y11 y12 y13
  exact ⟨y1, (x.fr.trans f x.ed x.ec x.ea).trans y2 x.ed x.ec x.ea, y3.trans x.ed, y4.trans x.ec, y5.trans x.ea, y6.trans x.ek, y7.trans x.el, y8.trans x.eq, by omega, Nat.le_trans x.cg y14, by omega, by omega, by omega, by omega⟩
section
variable {p : Addr} {S S1 : PS} {H H1 : Hp} {c a t : Nat} {Q : VK} {E : XK}
theorem x_some {m : Int} (R : Rch p S H c a t S1 H1) (h0 : 0 < m) (h1 : m ≤ 4294967296) (q : ∀ (r : Int) H2, 0 ≤ r → r < m → Rch p S H c a t S1 H2 → Q (.int r) H2) : spSome [.ref p, .int m] H1 Q E :=
  w_some R.pt h0 h1 fun r H2 r0 r1 hP f => q r H2 r0 r1 (R.of hP f)
theorem x_reg (R : Rch p S H c a t S1 H1) (q : ∀ (r : Int) H2, R16 r → Rch p S H c a t S1 H2 → Q (.int r) H2) : spReg [.ref p] H1 Q E :=
  w_reg R.pt fun r H2 r0 hP f => q r H2 r0 (R.of hP f)
theorem x_label {m : Int} (R : Rch p S H c a t S1 H1) (hT : Tot S m) (hm : m + a ≤ 100000) (q : ∀ (S2 : PS) (l : Int) H2, 0 ≤ l → l < S2.at_.length → S1.at_.length ≤ S2.at_.length → S2.tb = S1.tb → S2.tbl = S1.tbl → Rch p S H c (a + 1) t S2 H2 → Q (.int l) H2) : spLabel [.ref p] H1 Q E := by
  have := R.a6; have := hT.a; have := R.pt.lf
  refine ⟨p, S1, rfl, R.pt, by omega, fun H2 hP f => q { S1 with at_ := S1.at_ ++ [-1] } _ H2 (by omega) ?_ ?_ rfl rfl (R.lab 1 hP f (by rw [List.length_append]; rfl))⟩
  · show (S1.at_.length : Int) < ((S1.at_ ++ [-1]).length : Nat); rw [List.length_append]; simp only [List.length_cons, List.length_nil]; omega
  · show S1.at_.length ≤ (S1.at_ ++ [-1]).length; rw [List.length_append]; omega
theorem x_here {m l : Int} (R : Rch p S H c a t S1 H1) (hT : Tot S m) (hm : m + c ≤ 100000) (l0 : 0 ≤ l) (l1 : l < S1.at_.length) (q : ∀ (S2 : PS) H2, S1.at_.length ≤ S2.at_.length → Rch p S H c a t S2 H2 → Q .non H2) : spHere [.ref p, .int l] H1 Q E := by
  have := R.c6; have := hT.c; have := R.pt.lf
  exact ⟨p, S1, l, rfl, R.pt, by omega, l0, l1, fun ls H2 e hP f => q _ H2 (by show S1.at_.length ≤ ls.length; omega) (R.lab 0 hP f e)⟩
theorem x_put {m : Int} {v : V} (R : Rch p S H c a t S1 H1) (hT : Tot S m) (hm : m + c ≤ 100000) (hv : RowOk S1.at_.length H1 v) (q : ∀ (S2 : PS) H2, S1.at_.length ≤ S2.at_.length → S2.tb = S1.tb → S2.tbl = S1.tbl → Rch p S H (c + 1) a t S2 H2 → Q .non H2) : spPut [.ref p, v] H1 Q E := by
  have := R.c6; have := hT.c; have := R.pt.lf
  exact w_put R.pt (by omega) hv fun H2 hP f => q { S1 with code := S1.code ++ [v] } H2 (Nat.le_refl _) rfl rfl (R.cod hP f)
theorem x_one {m : Int} (R : Rch p S H c a t S1 H1) (hT : Tot S m) (hm : m + c ≤ 99990) (q : ∀ (S2 : PS) H2, Rch p S H (c + 1) a t S2 H2 → Q .non H2) : spOne [.ref p] H1 Q E := by
  have := R.c6; have := hT.c; have := R.pt.lf
  exact ⟨p, S1, rfl, R.pt, by omega, fun v H2 hP f => q _ H2 (R.cod hP f)⟩
theorem x_call {m : Int} (R : Rch p S H c a t S1 H1) (hT : Tot S m) (hm : m + c ≤ 99990) (q : ∀ (S2 : PS) H2, Rch p S H (c + 1) a t S2 H2 → Q .non H2) : spCall [.ref p] H1 Q E := by
  have := R.c6; have := hT.c; have := R.pt.lf; have := hT.l
  exact ⟨p, S1, rfl, R.pt, by omega, by rw [R.eq]; omega, fun v H2 hP f => q _ H2 (R.cod hP f)⟩
/-- rows of a depth of at most d -/
def spRows (d : Int) : Sp := fun vs H Q _ => ∃ (p : Addr) (S : PS) (e : Int), vs = [.ref p, .int e] ∧ e ≤ d ∧ PAt H p S ∧ Tot S 90000 ∧ ∀ S' H', Rch p S H 0 0 0 S' H' → Q .non H'
/-- a block of a depth of at most d -/
def spBlk (d : Int) : Sp := fun vs H Q _ => ∃ (p : Addr) (S : PS) (e : Int), vs = [.ref p, .int e] ∧ 0 < e ∧ e ≤ d ∧ PAt H p S ∧ Tot S 89994 ∧ ∀ S' H', Rch p S H 6 6 6 S' H' → Q .non H'
theorem x_rows {d e m : Int} (R : Rch p S H c a t S1 H1) (hT : Tot S m) (h1 : m + c ≤ 90000) (h2 : m + a ≤ 90000) (h3 : m + t ≤ 90000) (he : e ≤ d) (q : ∀ (S2 : PS) H2, S1.at_.length ≤ S2.at_.length → Rch p S H c a t S2 H2 → Q .non H2) : spRows d [.ref p, .int e] H1 Q E := by
  have := R.c6; have := R.a6; have := R.t6; have := hT.c; have := hT.a; have := hT.t
  exact ⟨p, S1, e, rfl, he, R.pt, ⟨by omega, by omega, by omega, by rw [R.eq]; exact hT.l⟩, fun S' H' y => q S' H' y.al (R.trans y)⟩
end
def OneW (s : Str) : Prop := ∃ (n : Nat) (fm : Str), opsT[n]? = some (s, fm) ∧ ∀ a, R16 a → RFits fm [a]
def BrW (s : Str) : Prop := ∃ n : Nat, opsT[n]? = some (s, ("ssi" : Str))
section
variable {P : Program} {w : World} {K : PySem.W.Frag} {mg : Str → Option Value} {base : Heap}
theorem ok_law_if {k : Nat} {d : Int} (hk : 5 ≤ k) (c_law_rows : Cd P w K mg base k "_law_rows" (spRows (d - 1))) (c_law_label : Cd P w K mg base 1 "_law_label" spLabel) (c_law_here : Cd P w K mg base 1 "_law_here" spHere) (c_law_some : Cd P w K mg base 2 "_law_some" spSome) (c_law_register : Cd P w K mg base 3 "_law_register" spReg) (c_law_put_word : Cd P w K mg base 1 "_law_put_word" spPut) (Z : St1 K mg "_law_if" s_law_if ["p", "depth"]) : Cd P w K mg base (k + 1) "_law_if" (spBlk d) := by
  refine Z.cd sc_law_if (fun vs H Q E h => by obtain ⟨p, S, e, rfl, _⟩ := h; rfl) (fun f cdv A outer s H vs Q E hr h => ?_)
  obtain ⟨p, S, e, rfl, e0, ed, hP, hT, q⟩ := h
  refine ⟨_, (pss_cons (ps_set (i := 2) sc_law_if.nd rfl (.inl rfl) (pe_ix ix_list (pe_lst (pa_cons pe_str (pa_cons pe_str (pa_cons pe_str (pa_cons pe_str (pa_cons pe_str (pa_cons pe_str pa_nil))))))) (pe_cd c_law_some hr (by first | decide | omega) (by rfl) (pa_cons (pv 0) (pa_cons pe_int pa_nil))) (fun _ _ => rfl)))
      (Evl.pss_cut (ps_set (i := 3) sc_law_if.nd rfl (.inl rfl) (pe_ifExp (pt_cmpR op_gt (pe_cd c_law_some hr (by first | decide | omega) (by rfl) (pa_cons (pv 0) (pa_cons pe_int pa_nil))) pe_int (nomark _)) (pe_cd c_law_register hr (by first | decide | omega) (by rfl) (pa_cons (pv 0) pa_nil)) pe_int))
      (pss_cons (ps_set (i := 4) sc_law_if.nd rfl (.inl rfl) (pe_cd c_law_label hr (by first | decide | omega) (by rfl) (pa_cons (pv 0) pa_nil)))
      (pss_cons (ps_set (i := 5) sc_law_if.nd rfl (.inl rfl) (pe_cd c_law_label hr (by first | decide | omega) (by rfl) (pa_cons (pv 0) pa_nil)))
      (pss_cons (ps_expr (pe_cd c_law_put_word hr (by first | decide | omega) (by rfl) (pa_cons (pv 0) (pa_cons (pe_tup (pa_cons (pv 2) (pa_cons (pe_cd c_law_register hr (by first | decide | omega) (by rfl) (pa_cons (pv 0) pa_nil)) (pa_cons (pv 3) (pa_cons (pe_tup (pa_cons pe_str (pa_cons (pv 4) pa_nil))) pa_nil))))) pa_nil))))
      (pss_cons (ps_expr (pe_cd c_law_rows hr (by first | decide | omega) (by rfl) (pa_cons (pv 0) (pa_cons (pe_op op_sub (pv 1) pe_int) pa_nil))))
      (pss_cons (ps_if (pt_cmpR op_eq (pe_cd c_law_some hr (by first | decide | omega) (by rfl) (pa_cons (pv 0) (pa_cons pe_int pa_nil))) pe_int (nomark _)) (pss_cons (ps_expr (pe_cd c_law_put_word hr (by first | decide | omega) (by rfl) (pa_cons (pv 0) (pa_cons (pe_tup (pa_cons pe_str (pa_cons pe_int (pa_cons (pe_tup (pa_cons pe_str (pa_cons (pv 5) pa_nil))) pa_nil)))) pa_nil))))
      (pss_cons (ps_expr (pe_cd c_law_here hr (by first | decide | omega) (by rfl) (pa_cons (pv 0) (pa_cons (pv 4) pa_nil))))
      (pss_one (ps_expr (pe_cd c_law_rows hr (by first | decide | omega) (by rfl) (pa_cons (pv 0) (pa_cons (pe_op op_sub (pv 1) pe_int) pa_nil))))))) (pss_one (ps_expr (pe_cd c_law_here hr (by first | decide | omega) (by rfl) (pa_cons (pv 0) (pa_cons (pv 4) pa_nil))))))
      (pss_one (ps_expr (pe_cd c_law_here hr (by first | decide | omega) (by rfl) (pa_cons (pv 0) (pa_cons (pv 5) pa_nil)))))))))))), ?_⟩
  (with_reducible refine w_seq ?_)
  (with_reducible refine w_asg ?_)
  (with_reducible refine w_op ?_)
  (with_reducible refine w_lst ?_)
  (with_reducible refine w_cons ?_)
  (with_reducible refine w_c ?_)
  (with_reducible refine w_cons ?_)
  (with_reducible refine w_c ?_)
  (with_reducible refine w_cons ?_)
  (with_reducible refine w_c ?_)
  (with_reducible refine w_cons ?_)
  (with_reducible refine w_c ?_)
  (with_reducible refine w_cons ?_)
  (with_reducible refine w_c ?_)
  (with_reducible refine w_cons ?_)
  (with_reducible refine w_c ?_)
  (with_reducible refine w_nil ?_)
  refine w_kLst (by show 6 ≤ sizeLine; decide) fun l H1 nl s1 hl1 => ?_
  (with_reducible refine w_call ?_)
  (with_reducible refine w_cons ?_)
  ((with_reducible refine' w_var ?hv ?_); (case hv => exact rfl))
  (with_reducible refine w_cons ?_)
  (with_reducible refine w_c ?_)
  (with_reducible refine w_nil ?_)
  refine w_some (hP.same s1) (by decide) (by decide) fun j H2 j0 j1 hP2 f2 => ?_
  obtain ⟨v, hv, hat⟩ := pick_any [V.str "beq", V.str "bne", V.str "blt", V.str "bge", V.str "bltu", V.str "bgeu"] j0 j1
  obtain ⟨wd, ⟨n, hn⟩, rfl⟩ : ∃ i, BrW i ∧ v = .str i := by
    simp only [List.mem_cons, List.not_mem_nil, or_false] at hv
    rcases hv with rfl | rfl | rfl | rfl | rfl | rfl
    · exact ⟨_, ⟨27, rfl⟩, rfl⟩
    · exact ⟨_, ⟨28, rfl⟩, rfl⟩
    · exact ⟨_, ⟨29, rfl⟩, rfl⟩
    · exact ⟨_, ⟨30, rfl⟩, rfl⟩
    · exact ⟨_, ⟨31, rfl⟩, rfl⟩
    · exact ⟨_, ⟨32, rfl⟩, rfl⟩
  refine w_ixL (hP.kept nl hl1 f2) hat ?_
  have R2 : Rch p S H 0 0 0 S H2 := ((Rch.refl hP).sm s1).of hP2 f2
  (with_reducible refine w_name ?_)
  refine Evl.q_cut (M := fun σ' H' => Rch p S H 0 0 0 S H' ∧ ∃ rb, R16 rb ∧ σ' = [some (.ref p), some (.int e), some (.str wd), some (.int rb), none, none]) ?_ ?_
  · (with_reducible refine w_asg ?_)
    (with_reducible refine w_if ?_)
    (with_reducible refine w_test ?_)
    (with_reducible refine w_op ?_)
    (with_reducible refine w_call ?_)
    (with_reducible refine w_cons ?_)
    ((with_reducible refine' w_var ?hv ?_); (case hv => exact rfl))
    (with_reducible refine w_cons ?_)
    (with_reducible refine w_c ?_)
    (with_reducible refine w_nil ?_)
    refine x_some R2 (by decide) (by decide) fun r H3 _ _ R3 => ?_
    (with_reducible refine w_c ?_)
    (with_reducible refine w_I0 ?_)
    (with_reducible refine w_bl ?_)
    refine w_dec (fun e => ?_) (fun e => ?_)
    · (with_reducible refine w_call ?_)
      (with_reducible refine w_cons ?_)
      ((with_reducible refine' w_var ?hv ?_); (case hv => exact rfl))
      (with_reducible refine w_nil ?_)
      refine x_reg R3 fun rb H4 hrb R4 => ?_
      (with_reducible refine w_name ?_)
      exact ⟨R4, rb, hrb, rfl⟩
    · (with_reducible refine w_c ?_)
      (with_reducible refine w_name ?_)
      exact ⟨R3, 0, ⟨by decide, by decide⟩, rfl⟩
  · rintro σ' H3 ⟨R3, rb, hrb, rfl⟩
    (with_reducible refine w_seq ?_)
    (with_reducible refine w_asg ?_)
    (with_reducible refine w_call ?_)
    (with_reducible refine w_cons ?_)
    ((with_reducible refine' w_var ?hv ?_); (case hv => exact rfl))
    (with_reducible refine w_nil ?_)
    refine x_label R3 hT (by omega) fun S4 other H4 o0 o1 _ _ _ R4 => ?_
    (with_reducible refine w_name ?_)
    (with_reducible refine w_seq ?_)
    (with_reducible refine w_asg ?_)
    (with_reducible refine w_call ?_)
    (with_reducible refine w_cons ?_)
    ((with_reducible refine' w_var ?hv ?_); (case hv => exact rfl))
    (with_reducible refine w_nil ?_)
    refine x_label R4 hT (by omega) fun S5 last H5 l0 l1 g5 _ _ R5 => ?_
    (with_reducible refine w_name ?_)
    (with_reducible refine w_seq ?_)
    (with_reducible refine w_drop ?_)
    (with_reducible refine w_call ?_)
    (with_reducible refine w_cons ?_)
    ((with_reducible refine' w_var ?hv ?_); (case hv => exact rfl))
    (with_reducible refine w_cons ?_)
    (with_reducible refine w_tup ?_)
    (with_reducible refine w_cons ?_)
    ((with_reducible refine' w_var ?hv ?_); (case hv => exact rfl))
    (with_reducible refine w_cons ?_)
    (with_reducible refine w_call ?_)
    (with_reducible refine w_cons ?_)
    ((with_reducible refine' w_var ?hv ?_); (case hv => exact rfl))
    (with_reducible refine w_nil ?_)
    refine x_reg R5 fun ra H6 hra R6 => ?_
    (with_reducible refine w_cons ?_)
    ((with_reducible refine' w_var ?hv ?_); (case hv => exact rfl))
    (with_reducible refine w_cons ?_)
    (with_reducible refine w_tup ?_)
    (with_reducible refine w_cons ?_)
    (with_reducible refine w_c ?_)
    (with_reducible refine w_cons ?_)
    ((with_reducible refine' w_var ?hv ?_); (case hv => exact rfl))
    (with_reducible refine w_nil ?_)
    refine w_kTup (by show 2 ≤ sizeLine; decide) fun t H7 nt s7 ht => ?_
    (with_reducible refine w_nil ?_)
    refine w_kTup (by show 4 ≤ sizeLine; decide) fun t2 H8 nt2 s8 ht2 => ?_
    (with_reducible refine w_nil ?_)
    refine x_put ((R6.sm s7).sm s8) hT (by omega) (rowTo (xs := [ra, rb]) n hn (fun z => .ssi hra hrb) ht2 (s8 _ _ ht) o0 (by omega)) fun S9 H9 g9 _ _ R9 => ?_
    (with_reducible refine w_seq ?_)
    (with_reducible refine w_drop ?_)
    (with_reducible refine w_call ?_)
    (with_reducible refine w_cons ?_)
    ((with_reducible refine' w_var ?hv ?_); (case hv => exact rfl))
    (with_reducible refine w_cons ?_)
    (with_reducible refine w_op ?_)
    ((with_reducible refine' w_var ?hv ?_); (case hv => exact rfl))
    (with_reducible refine w_c ?_)
    (with_reducible refine w_I0 ?_)
    (with_reducible refine w_nil ?_)
    refine x_rows R9 hT (by omega) (by omega) (by omega) (by omega) fun S10 H10 g10 R10 => ?_
    (with_reducible refine w_seq ?_)
    (with_reducible refine w_ifS ?_)
    (with_reducible refine w_test ?_)
    (with_reducible refine w_op ?_)
    (with_reducible refine w_call ?_)
    (with_reducible refine w_cons ?_)
    ((with_reducible refine' w_var ?hv ?_); (case hv => exact rfl))
    (with_reducible refine w_cons ?_)
    (with_reducible refine w_c ?_)
    (with_reducible refine w_nil ?_)
    refine x_some R10 (by decide) (by decide) fun r H11 _ _ R11 => ?_
    (with_reducible refine w_c ?_)
    (with_reducible refine w_eqI ?_)
    (with_reducible refine w_bl ?_)
    refine w_dec (fun e => ?_) (fun e => ?_)
    · (with_reducible refine w_seq ?_)
      (with_reducible refine w_drop ?_)
      (with_reducible refine w_call ?_)
      (with_reducible refine w_cons ?_)
      ((with_reducible refine' w_var ?hv ?_); (case hv => exact rfl))
      (with_reducible refine w_cons ?_)
      (with_reducible refine w_tup ?_)
      (with_reducible refine w_cons ?_)
      (with_reducible refine w_c ?_)
      (with_reducible refine w_cons ?_)
      (with_reducible refine w_c ?_)
      (with_reducible refine w_cons ?_)
      (with_reducible refine w_tup ?_)
      (with_reducible refine w_cons ?_)
      (with_reducible refine w_c ?_)
      (with_reducible refine w_cons ?_)
      ((with_reducible refine' w_var ?hv ?_); (case hv => exact rfl))
      (with_reducible refine w_nil ?_)
      refine w_kTup (by show 2 ≤ sizeLine; decide) fun t H12 nt s12 ht => ?_
      (with_reducible refine w_nil ?_)
      refine w_kTup (by show 3 ≤ sizeLine; decide) fun t2 H13 nt2 s13 ht2 => ?_
      (with_reducible refine w_nil ?_)
      refine x_put ((R11.sm s12).sm s13) hT (by omega) (rowTo (xs := [0]) 33 rfl (fun z => .dj ⟨by decide, by decide⟩) ht2 (s13 _ _ ht) l0 (by omega)) fun S14 H14 g14 _ _ R14 => ?_
      (with_reducible refine w_seq ?_)
      (with_reducible refine w_drop ?_)
      (with_reducible refine w_call ?_)
      (with_reducible refine w_cons ?_)
      ((with_reducible refine' w_var ?hv ?_); (case hv => exact rfl))
      (with_reducible refine w_cons ?_)
      ((with_reducible refine' w_var ?hv ?_); (case hv => exact rfl))
      (with_reducible refine w_nil ?_)
      refine x_here R14 hT (by omega) o0 (by omega) fun S15 H15 g15 R15 => ?_
      (with_reducible refine w_drop ?_)
      (with_reducible refine w_call ?_)
      (with_reducible refine w_cons ?_)
      ((with_reducible refine' w_var ?hv ?_); (case hv => exact rfl))
      (with_reducible refine w_cons ?_)
      (with_reducible refine w_op ?_)
      ((with_reducible refine' w_var ?hv ?_); (case hv => exact rfl))
      (with_reducible refine w_c ?_)
      (with_reducible refine w_I0 ?_)
      (with_reducible refine w_nil ?_)
      refine x_rows R15 hT (by omega) (by omega) (by omega) (by omega) fun S16 H16 g16 R16 => ?_
      (with_reducible refine w_drop ?_)
      (with_reducible refine w_call ?_)
      (with_reducible refine w_cons ?_)
      ((with_reducible refine' w_var ?hv ?_); (case hv => exact rfl))
      (with_reducible refine w_cons ?_)
      ((with_reducible refine' w_var ?hv ?_); (case hv => exact rfl))
      (with_reducible refine w_nil ?_)
      refine x_here R16 hT (by omega) l0 (by omega) fun S17 H17 g17 R17 => ?_
      skip
      exact q _ _ (R17.weak (by omega) (by omega) (by omega))
    · (with_reducible refine w_drop ?_)
      (with_reducible refine w_call ?_)
      (with_reducible refine w_cons ?_)
      ((with_reducible refine' w_var ?hv ?_); (case hv => exact rfl))
      (with_reducible refine w_cons ?_)
      ((with_reducible refine' w_var ?hv ?_); (case hv => exact rfl))
      (with_reducible refine w_nil ?_)
      refine x_here R11 hT (by omega) o0 (by omega) fun S15 H15 g15 R15 => ?_
      (with_reducible refine w_drop ?_)
      (with_reducible refine w_call ?_)
      (with_reducible refine w_cons ?_)
      ((with_reducible refine' w_var ?hv ?_); (case hv => exact rfl))
      (with_reducible refine w_cons ?_)
      ((with_reducible refine' w_var ?hv ?_); (case hv => exact rfl))
      (with_reducible refine w_nil ?_)
      refine x_here R15 hT (by omega) l0 (by omega) fun S17 H17 g17 R17 => ?_
      skip
      exact q _ _ (R17.weak (by omega) (by omega) (by omega))
theorem ok_law_loop {k : Nat} {d : Int} (hk : 5 ≤ k) (c_law_rows : Cd P w K mg base k "_law_rows" (spRows (d - 1))) (c_law_label : Cd P w K mg base 1 "_law_label" spLabel) (c_law_here : Cd P w K mg base 1 "_law_here" spHere) (c_law_some : Cd P w K mg base 2 "_law_some" spSome) (c_law_put_word : Cd P w K mg base 1 "_law_put_word" spPut) (Z : St1 K mg "_law_loop" s_law_loop ["p", "depth"]) : Cd P w K mg base (k + 1) "_law_loop" (spBlk d) := by
  refine Z.cd sc_law_loop (fun vs H Q E h => by obtain ⟨p, S, e, rfl, _⟩ := h; rfl) (fun f cdv A outer s H vs Q E hr h => ?_)
  obtain ⟨p, S, e, rfl, e0, ed, hP, hT, q⟩ := h
  refine ⟨_, (Evl.pss_cut (ps_set (i := 2) sc_law_loop.nd rfl (.inl rfl) (pe_ifExp (pt_cmpR op_gt (pv 1) pe_int (nomark _)) pe_int pe_int))
      (pss_cons (ps_set (i := 3) sc_law_loop.nd rfl (.inl rfl) (pe_cd c_law_label hr (by first | decide | omega) (by rfl) (pa_cons (pv 0) pa_nil)))
      (pss_cons (ps_expr (pe_cd c_law_put_word hr (by first | decide | omega) (by rfl) (pa_cons (pv 0) (pa_cons (pe_tup (pa_cons pe_str (pa_cons (pv 2) (pa_cons pe_int (pa_cons (pe_op op_add pe_int (pe_cd c_law_some hr (by first | decide | omega) (by rfl) (pa_cons (pv 0) (pa_cons pe_int pa_nil)))) pa_nil))))) pa_nil))))
      (pss_cons (ps_expr (pe_cd c_law_here hr (by first | decide | omega) (by rfl) (pa_cons (pv 0) (pa_cons (pv 3) pa_nil))))
      (pss_cons (ps_expr (pe_cd c_law_rows hr (by first | decide | omega) (by rfl) (pa_cons (pv 0) (pa_cons (pe_op op_sub (pv 1) pe_int) pa_nil))))
      (pss_cons (ps_expr (pe_cd c_law_put_word hr (by first | decide | omega) (by rfl) (pa_cons (pv 0) (pa_cons (pe_tup (pa_cons pe_str (pa_cons (pv 2) (pa_cons (pv 2) (pa_cons (pe_un un_neg pe_int) pa_nil))))) pa_nil))))
      (pss_one (ps_expr (pe_cd c_law_put_word hr (by first | decide | omega) (by rfl) (pa_cons (pv 0) (pa_cons (pe_tup (pa_cons (pe_ix ix_list (pe_lst (pa_cons pe_str (pa_cons pe_str pa_nil))) (pe_cd c_law_some hr (by first | decide | omega) (by rfl) (pa_cons (pv 0) (pa_cons pe_int pa_nil))) (fun _ _ => rfl)) (pa_cons pe_int (pa_cons (pv 2) (pa_cons (pe_tup (pa_cons pe_str (pa_cons (pv 3) pa_nil))) pa_nil))))) pa_nil))))))))))), ?_⟩
  skip
  refine Evl.q_cut (M := fun σ' H' => H' = H ∧ ∃ cn, R16 cn ∧ σ' = [some (.ref p), some (.int e), some (.int cn), none]) ?_ ?_
  · (with_reducible refine w_asg ?_)
    (with_reducible refine w_if ?_)
    (with_reducible refine w_test ?_)
    (with_reducible refine w_op ?_)
    ((with_reducible refine' w_var ?hv ?_); (case hv => exact rfl))
    (with_reducible refine w_c ?_)
    (with_reducible refine w_I0 ?_)
    (with_reducible refine w_bl ?_)
    refine w_dec (fun e => ?_) (fun e => ?_)
    · (with_reducible refine w_c ?_)
      (with_reducible refine w_name ?_)
      exact ⟨rfl, 9, ⟨by decide, by decide⟩, rfl⟩
    · (with_reducible refine w_c ?_)
      (with_reducible refine w_name ?_)
      exact ⟨rfl, 12, ⟨by decide, by decide⟩, rfl⟩
  · rintro σ' H1 ⟨rfl, cn, hcn, rfl⟩
    (with_reducible refine w_seq ?_)
    (with_reducible refine w_asg ?_)
    (with_reducible refine w_call ?_)
    (with_reducible refine w_cons ?_)
    ((with_reducible refine' w_var ?hv ?_); (case hv => exact rfl))
    (with_reducible refine w_nil ?_)
    refine x_label (Rch.refl hP) hT (by omega) fun S4 top H4 o0 o1 _ _ _ R4 => ?_
    (with_reducible refine w_name ?_)
    (with_reducible refine w_seq ?_)
    (with_reducible refine w_drop ?_)
    (with_reducible refine w_call ?_)
    (with_reducible refine w_cons ?_)
    ((with_reducible refine' w_var ?hv ?_); (case hv => exact rfl))
    (with_reducible refine w_cons ?_)
    (with_reducible refine w_tup ?_)
    (with_reducible refine w_cons ?_)
    (with_reducible refine w_c ?_)
    (with_reducible refine w_cons ?_)
    ((with_reducible refine' w_var ?hv ?_); (case hv => exact rfl))
    (with_reducible refine w_cons ?_)
    (with_reducible refine w_c ?_)
    (with_reducible refine w_cons ?_)
    (with_reducible refine w_op ?_)
    (with_reducible refine w_c ?_)
    (with_reducible refine w_call ?_)
    (with_reducible refine w_cons ?_)
    ((with_reducible refine' w_var ?hv ?_); (case hv => exact rfl))
    (with_reducible refine w_cons ?_)
    (with_reducible refine w_c ?_)
    (with_reducible refine w_nil ?_)
    refine x_some R4 (by decide) (by decide) fun r H5 _ _ R5 => ?_
    (with_reducible refine w_I0 ?_)
    (with_reducible refine w_nil ?_)
    refine w_kTup (by show 4 ≤ sizeLine; decide) fun t H6 nt s6 ht => ?_
    (with_reducible refine w_nil ?_)
    refine x_put (R5.sm s6) hT (by omega) (rowIns (xs := [cn, 0, 1 + r]) 13 rfl (.dsi hcn ⟨by decide, by decide⟩) ht) fun S7 H7 g7 _ _ R7 => ?_
    (with_reducible refine w_seq ?_)
    (with_reducible refine w_drop ?_)
    (with_reducible refine w_call ?_)
    (with_reducible refine w_cons ?_)
    ((with_reducible refine' w_var ?hv ?_); (case hv => exact rfl))
    (with_reducible refine w_cons ?_)
    ((with_reducible refine' w_var ?hv ?_); (case hv => exact rfl))
    (with_reducible refine w_nil ?_)
    refine x_here R7 hT (by omega) o0 (by omega) fun S8 H8 g8 R8 => ?_
    (with_reducible refine w_seq ?_)
    (with_reducible refine w_drop ?_)
    (with_reducible refine w_call ?_)
    (with_reducible refine w_cons ?_)
    ((with_reducible refine' w_var ?hv ?_); (case hv => exact rfl))
    (with_reducible refine w_cons ?_)
    (with_reducible refine w_op ?_)
    ((with_reducible refine' w_var ?hv ?_); (case hv => exact rfl))
    (with_reducible refine w_c ?_)
    (with_reducible refine w_I0 ?_)
    (with_reducible refine w_nil ?_)
    refine x_rows R8 hT (by omega) (by omega) (by omega) (by omega) fun S9 H9 g9 R9 => ?_
    (with_reducible refine w_seq ?_)
    (with_reducible refine w_drop ?_)
    (with_reducible refine w_call ?_)
    (with_reducible refine w_cons ?_)
    ((with_reducible refine' w_var ?hv ?_); (case hv => exact rfl))
    (with_reducible refine w_cons ?_)
    (with_reducible refine w_tup ?_)
    (with_reducible refine w_cons ?_)
    (with_reducible refine w_c ?_)
    (with_reducible refine w_cons ?_)
    ((with_reducible refine' w_var ?hv ?_); (case hv => exact rfl))
    (with_reducible refine w_cons ?_)
    ((with_reducible refine' w_var ?hv ?_); (case hv => exact rfl))
    (with_reducible refine w_cons ?_)
    (with_reducible refine w_un ?_)
    (with_reducible refine w_c ?_)
    (with_reducible refine w_U ?_)
    (with_reducible refine w_nil ?_)
    refine w_kTup (by show 4 ≤ sizeLine; decide) fun t H10 nt s10 ht => ?_
    (with_reducible refine w_nil ?_)
    refine x_put (R9.sm s10) hT (by omega) (rowIns (xs := [cn, cn, -1]) 13 rfl (.dsi hcn hcn) ht) fun S11 H11 g11 _ _ R11 => ?_
    (with_reducible refine w_drop ?_)
    (with_reducible refine w_call ?_)
    (with_reducible refine w_cons ?_)
    ((with_reducible refine' w_var ?hv ?_); (case hv => exact rfl))
    (with_reducible refine w_cons ?_)
    (with_reducible refine w_tup ?_)
    (with_reducible refine w_cons ?_)
    (with_reducible refine w_op ?_)
    (with_reducible refine w_lst ?_)
    (with_reducible refine w_cons ?_)
    (with_reducible refine w_c ?_)
    (with_reducible refine w_cons ?_)
    (with_reducible refine w_c ?_)
    (with_reducible refine w_nil ?_)
    refine w_kLst (by show 2 ≤ sizeLine; decide) fun l H12 nl s12 hl12 => ?_
    (with_reducible refine w_call ?_)
    (with_reducible refine w_cons ?_)
    ((with_reducible refine' w_var ?hv ?_); (case hv => exact rfl))
    (with_reducible refine w_cons ?_)
    (with_reducible refine w_c ?_)
    (with_reducible refine w_nil ?_)
    refine w_some (R11.pt.same s12) (by decide) (by decide) fun j H13 j0 j1 hP13 f13 => ?_
    obtain ⟨v, hv, hat⟩ := pick_any [V.str "bne", V.str "bltu"] j0 j1
    obtain ⟨wd, ⟨n, hn⟩, rfl⟩ : ∃ i, BrW i ∧ v = .str i := by
      simp only [List.mem_cons, List.not_mem_nil, or_false] at hv
      rcases hv with rfl | rfl
      · exact ⟨_, ⟨28, rfl⟩, rfl⟩
      · exact ⟨_, ⟨31, rfl⟩, rfl⟩
    refine w_ixL (R11.pt.kept nl hl12 f13) hat ?_
    have R13 := (R11.sm s12).of hP13 f13
    (with_reducible refine w_cons ?_)
    (with_reducible refine w_c ?_)
    (with_reducible refine w_cons ?_)
    ((with_reducible refine' w_var ?hv ?_); (case hv => exact rfl))
    (with_reducible refine w_cons ?_)
    (with_reducible refine w_tup ?_)
    (with_reducible refine w_cons ?_)
    (with_reducible refine w_c ?_)
    (with_reducible refine w_cons ?_)
    ((with_reducible refine' w_var ?hv ?_); (case hv => exact rfl))
    (with_reducible refine w_nil ?_)
    refine w_kTup (by show 2 ≤ sizeLine; decide) fun t H14 nt s14 ht => ?_
    (with_reducible refine w_nil ?_)
    refine w_kTup (by show 4 ≤ sizeLine; decide) fun t2 H15 nt2 s15 ht2 => ?_
    (with_reducible refine w_nil ?_)
    refine x_put ((R13.sm s14).sm s15) hT (by omega) (rowTo (xs := [0, cn]) n hn (fun z => .ssi ⟨by decide, by decide⟩ hcn) ht2 (s15 _ _ ht) o0 (by omega)) fun S16 H16 g16 _ _ R16 => ?_
    skip
    exact q _ _ (R16.weak (by omega) (by omega) (by omega))
theorem ok_law_switch {k : Nat} {d : Int} (hk : 5 ≤ k) (b_len : mg "len" = none) (c_law_rows : Cd P w K mg base k "_law_rows" (spRows (d - 1))) (c_law_label : Cd P w K mg base 1 "_law_label" spLabel) (c_law_here : Cd P w K mg base 1 "_law_here" spHere) (c_law_register : Cd P w K mg base 3 "_law_register" spReg) (c_law_put_word : Cd P w K mg base 1 "_law_put_word" spPut) (Z : St1 K mg "_law_switch" s_law_switch ["p", "depth"]) : Cd P w K mg base (k + 1) "_law_switch" (spBlk d) := by
  refine Z.cd sc_law_switch (fun vs H Q E h => by obtain ⟨p, S, e, rfl, _⟩ := h; rfl) (fun f cdv A outer s H vs Q E hr h => ?_)
  obtain ⟨p, S, e, rfl, e0, ed, hP, hT, q⟩ := h
  have hu := hu_of hr
  refine ⟨_, (pss_cons (ps_set (i := 2) sc_law_switch.nd rfl (.inl rfl) (pe_cd c_law_label hr (by first | decide | omega) (by rfl) (pa_cons (pv 0) pa_nil)))
      (pss_cons (ps_set (i := 3) sc_law_switch.nd rfl (.inl rfl) (pe_cd c_law_label hr (by first | decide | omega) (by rfl) (pa_cons (pv 0) pa_nil)))
      (pss_cons (ps_set (i := 4) sc_law_switch.nd rfl (.inl rfl) (pe_cd c_law_label hr (by first | decide | omega) (by rfl) (pa_cons (pv 0) pa_nil)))
      (pss_cons (ps_set (i := 5) sc_law_switch.nd rfl (.inl rfl) (pe_callB call_lenQ (by rfl) b_len PySem.boot_len (pa_cons (pe_dget hu (pv 0) pe_str (fun _ _ => rfl)) pa_nil)))
      (pss_cons (ps_dput hu (pv 0) pe_str (pe_op op_cat (pe_dget hu (pv 0) pe_str (fun _ _ => rfl)) (pe_lst (pa_cons (pv 2) (pa_cons (pv 3) pa_nil)))) rfl)
      (pss_cons (ps_expr (pe_cd c_law_put_word hr (by first | decide | omega) (by rfl) (pa_cons (pv 0) (pa_cons (pe_tup (pa_cons pe_str (pa_cons pe_int (pa_cons (pe_cd c_law_register hr (by first | decide | omega) (by rfl) (pa_cons (pv 0) pa_nil)) (pa_cons pe_int pa_nil))))) pa_nil))))
      (pss_cons (ps_expr (pe_cd c_law_put_word hr (by first | decide | omega) (by rfl) (pa_cons (pv 0) (pa_cons (pe_tup (pa_cons pe_str (pa_cons pe_int (pa_cons pe_int (pa_cons pe_int pa_nil))))) pa_nil))))
      (pss_cons (ps_expr (pe_cd c_law_put_word hr (by first | decide | omega) (by rfl) (pa_cons (pv 0) (pa_cons (pe_tup (pa_cons pe_str (pa_cons pe_int (pa_cons pe_int (pa_cons pe_int pa_nil))))) pa_nil))))
      (pss_cons (ps_expr (pe_cd c_law_put_word hr (by first | decide | omega) (by rfl) (pa_cons (pv 0) (pa_cons (pe_tup (pa_cons pe_str (pa_cons pe_int (pa_cons pe_int (pa_cons (pe_op op_mul pe_int (pv 5)) pa_nil))))) pa_nil))))
      (pss_cons (ps_expr (pe_cd c_law_put_word hr (by first | decide | omega) (by rfl) (pa_cons (pv 0) (pa_cons (pe_tup (pa_cons pe_str (pa_cons pe_int (pa_cons pe_int (pa_cons pe_int pa_nil))))) pa_nil))))
      (pss_cons (ps_expr (pe_cd c_law_here hr (by first | decide | omega) (by rfl) (pa_cons (pv 0) (pa_cons (pv 2) pa_nil))))
      (pss_cons (ps_expr (pe_cd c_law_rows hr (by first | decide | omega) (by rfl) (pa_cons (pv 0) (pa_cons (pe_op op_sub (pv 1) pe_int) pa_nil))))
      (pss_cons (ps_expr (pe_cd c_law_put_word hr (by first | decide | omega) (by rfl) (pa_cons (pv 0) (pa_cons (pe_tup (pa_cons pe_str (pa_cons pe_int (pa_cons (pe_tup (pa_cons pe_str (pa_cons (pv 4) pa_nil))) pa_nil)))) pa_nil))))
      (pss_cons (ps_expr (pe_cd c_law_here hr (by first | decide | omega) (by rfl) (pa_cons (pv 0) (pa_cons (pv 3) pa_nil))))
      (pss_cons (ps_expr (pe_cd c_law_rows hr (by first | decide | omega) (by rfl) (pa_cons (pv 0) (pa_cons (pe_op op_sub (pv 1) pe_int) pa_nil))))
      (pss_one (ps_expr (pe_cd c_law_here hr (by first | decide | omega) (by rfl) (pa_cons (pv 0) (pa_cons (pv 4) pa_nil)))))))))))))))))))), ?_⟩
  (with_reducible refine w_seq ?_)
  (with_reducible refine w_asg ?_)
  (with_reducible refine w_call ?_)
  (with_reducible refine w_cons ?_)
  ((with_reducible refine' w_var ?hv ?_); (case hv => exact rfl))
  (with_reducible refine w_nil ?_)
  refine x_label (Rch.refl hP) hT (by omega) fun S1 first H1 f0 f1 _ _ _ R1 => ?_
  (with_reducible refine w_name ?_)
  (with_reducible refine w_seq ?_)
  (with_reducible refine w_asg ?_)
  (with_reducible refine w_call ?_)
  (with_reducible refine w_cons ?_)
  ((with_reducible refine' w_var ?hv ?_); (case hv => exact rfl))
  (with_reducible refine w_nil ?_)
  refine x_label R1 hT (by omega) fun S2 second H2 s0 s1 g2 _ _ R2 => ?_
  (with_reducible refine w_name ?_)
  (with_reducible refine w_seq ?_)
  (with_reducible refine w_asg ?_)
  (with_reducible refine w_call ?_)
  (with_reducible refine w_cons ?_)
  ((with_reducible refine' w_var ?hv ?_); (case hv => exact rfl))
  (with_reducible refine w_nil ?_)
  refine x_label R2 hT (by omega) fun S3 last H3 l0 l1 g3 _ _ R3 => ?_
  (with_reducible refine w_name ?_)
  (with_reducible refine w_seq ?_)
  (with_reducible refine w_asg ?_)
  (with_reducible refine w_cb ?_)
  (with_reducible refine w_cons ?_)
  (with_reducible refine w_dget ?_)
  ((with_reducible refine' w_var ?hv ?_); (case hv => exact rfl))
  (with_reducible refine w_c ?_)
  refine w_kDG R3.pt.hp rfl ?_
  have htb := R3.pt.htb
  (with_reducible refine w_nil ?_)
  ((with_reducible refine' w_lenL ?hh ?_); (case hh => assumption))
  (with_reducible refine w_name ?_)
  (with_reducible refine w_seq ?_)
  (with_reducible refine w_dput ?_)
  (with_reducible refine w_op ?_)
  (with_reducible refine w_dget ?_)
  ((with_reducible refine' w_var ?hv ?_); (case hv => exact rfl))
  (with_reducible refine w_c ?_)
  refine w_kDG R3.pt.hp rfl ?_
  (with_reducible refine w_lst ?_)
  (with_reducible refine w_cons ?_)
  ((with_reducible refine' w_var ?hv ?_); (case hv => exact rfl))
  (with_reducible refine w_cons ?_)
  ((with_reducible refine' w_var ?hv ?_); (case hv => exact rfl))
  (with_reducible refine w_nil ?_)
  refine w_kLst (by show 2 ≤ sizeLine; decide) fun l H4 nl s4 hl4 => ?_
  skip
  have ht6 := R3.t6
  have hTt := hT.t
  have hlf := R3.pt.lf
  refine w_cat (s4 _ _ htb) hl4 (by show (S3.tbl.map V.int).length + 2 ≤ sizeLine; rw [List.length_map]; exact Nat.le_trans (show S3.tbl.length + 2 ≤ 100000 by omega) (by decide)) fun u H5 nu s5 hu5 => ?_
  ((with_reducible refine' w_var ?hv ?_); (case hv => exact rfl))
  (with_reducible refine w_c ?_)
  refine w_kDP (s5 _ _ (s4 _ _ R3.pt.hp)) (by show 6 < 1000; decide) rfl fun H6 hp6 b6 => ?_
  have hP5 := (R3.pt.same s4).same s5
  obtain ⟨xs, hx⟩ := (R3.pt.same s4).hdl
  obtain ⟨hP6, f6⟩ := PAt.table (ts := S3.tbl ++ [first, second]) hP5 b6 hp6 (by rw [List.map_append]; exact hu5) (ne_of_none hx nu).symm (ne_of_none (R3.pt.same s4).hc nu).symm (ne_of_none (R3.pt.same s4).ha nu).symm (fun x hx => by
    rcases List.mem_append.mp hx with hx | hx
    · exact hP5.tls x hx
    · simp only [List.mem_cons, List.not_mem_nil, or_false] at hx
      rcases hx with rfl | rfl
      · exact ⟨f0, by omega⟩
      · exact ⟨s0, by omega⟩)
  have R6 := ((R3.sm s4).sm s5).tab 2 hP6 f6 (by rw [List.length_append]; rfl)
  (with_reducible refine w_seq ?_)
  (with_reducible refine w_drop ?_)
  (with_reducible refine w_call ?_)
  (with_reducible refine w_cons ?_)
  ((with_reducible refine' w_var ?hv ?_); (case hv => exact rfl))
  (with_reducible refine w_cons ?_)
  (with_reducible refine w_tup ?_)
  (with_reducible refine w_cons ?_)
  (with_reducible refine w_c ?_)
  (with_reducible refine w_cons ?_)
  (with_reducible refine w_c ?_)
  (with_reducible refine w_cons ?_)
  (with_reducible refine w_call ?_)
  (with_reducible refine w_cons ?_)
  ((with_reducible refine' w_var ?hv ?_); (case hv => exact rfl))
  (with_reducible refine w_nil ?_)
  refine x_reg R6 fun ra H7 hra R7 => ?_
  (with_reducible refine w_cons ?_)
  (with_reducible refine w_c ?_)
  (with_reducible refine w_nil ?_)
  refine w_kTup (by show 4 ≤ sizeLine; decide) fun t H8 nt s8 ht => ?_
  (with_reducible refine w_nil ?_)
  refine x_put (R7.sm s8) hT (by omega) (rowIns (xs := [13, ra, 1]) 14 rfl (.dsi ⟨by decide, by decide⟩ hra) ht) fun S9 H9 g9 _ _ R9 => ?_
  (with_reducible refine w_seq ?_)
  (with_reducible refine w_drop ?_)
  (with_reducible refine w_call ?_)
  (with_reducible refine w_cons ?_)
  ((with_reducible refine' w_var ?hv ?_); (case hv => exact rfl))
  (with_reducible refine w_cons ?_)
  (with_reducible refine w_tup ?_)
  (with_reducible refine w_cons ?_)
  (with_reducible refine w_c ?_)
  (with_reducible refine w_cons ?_)
  (with_reducible refine w_c ?_)
  (with_reducible refine w_cons ?_)
  (with_reducible refine w_c ?_)
  (with_reducible refine w_cons ?_)
  (with_reducible refine w_c ?_)
  (with_reducible refine w_nil ?_)
  refine w_kTup (by show 4 ≤ sizeLine; decide) fun t H10 nt s10 ht => ?_
  (with_reducible refine w_nil ?_)
  refine x_put (R9.sm s10) hT (by omega) (rowIns (xs := [13, 13, 2]) 17 rfl (.dsi ⟨by decide, by decide⟩ ⟨by decide, by decide⟩) ht) fun S11 H11 g11 _ _ R11 => ?_
  (with_reducible refine w_seq ?_)
  (with_reducible refine w_drop ?_)
  (with_reducible refine w_call ?_)
  (with_reducible refine w_cons ?_)
  ((with_reducible refine' w_var ?hv ?_); (case hv => exact rfl))
  (with_reducible refine w_cons ?_)
  (with_reducible refine w_tup ?_)
  (with_reducible refine w_cons ?_)
  (with_reducible refine w_c ?_)
  (with_reducible refine w_cons ?_)
  (with_reducible refine w_c ?_)
  (with_reducible refine w_cons ?_)
  (with_reducible refine w_c ?_)
  (with_reducible refine w_cons ?_)
  (with_reducible refine w_c ?_)
  (with_reducible refine w_nil ?_)
  refine w_kTup (by show 4 ≤ sizeLine; decide) fun t H12 nt s12 ht => ?_
  (with_reducible refine w_nil ?_)
  refine x_put (R11.sm s12) hT (by omega) (rowIns (xs := [13, 13, 11]) 0 rfl (.dss ⟨by decide, by decide⟩ ⟨by decide, by decide⟩ ⟨by decide, by decide⟩) ht) fun S13 H13 g13 _ _ R13 => ?_
  (with_reducible refine w_seq ?_)
  (with_reducible refine w_drop ?_)
  (with_reducible refine w_call ?_)
  (with_reducible refine w_cons ?_)
  ((with_reducible refine' w_var ?hv ?_); (case hv => exact rfl))
  (with_reducible refine w_cons ?_)
  (with_reducible refine w_tup ?_)
  (with_reducible refine w_cons ?_)
  (with_reducible refine w_c ?_)
  (with_reducible refine w_cons ?_)
  (with_reducible refine w_c ?_)
  (with_reducible refine w_cons ?_)
  (with_reducible refine w_c ?_)
  (with_reducible refine w_cons ?_)
  (with_reducible refine w_op ?_)
  (with_reducible refine w_c ?_)
  ((with_reducible refine' w_var ?hv ?_); (case hv => exact rfl))
  ((with_reducible refine w_I ?hc ?_); (case hc => walk_at "side"))
  (with_reducible refine w_nil ?_)
  refine w_kTup (by show 4 ≤ sizeLine; decide) fun t H14 nt s14 ht => ?_
  (with_reducible refine w_nil ?_)
  refine x_put (R13.sm s14) hT (by omega) (rowIns (xs := [14, 13, 4 * ((S3.tbl.map V.int).length : Nat)]) 22 rfl (.dsi ⟨by decide, by decide⟩ ⟨by decide, by decide⟩) ht) fun S15 H15 g15 _ _ R15 => ?_
  (with_reducible refine w_seq ?_)
  (with_reducible refine w_drop ?_)
  (with_reducible refine w_call ?_)
  (with_reducible refine w_cons ?_)
  ((with_reducible refine' w_var ?hv ?_); (case hv => exact rfl))
  (with_reducible refine w_cons ?_)
  (with_reducible refine w_tup ?_)
  (with_reducible refine w_cons ?_)
  (with_reducible refine w_c ?_)
  (with_reducible refine w_cons ?_)
  (with_reducible refine w_c ?_)
  (with_reducible refine w_cons ?_)
  (with_reducible refine w_c ?_)
  (with_reducible refine w_cons ?_)
  (with_reducible refine w_c ?_)
  (with_reducible refine w_nil ?_)
  refine w_kTup (by show 4 ≤ sizeLine; decide) fun t H16 nt s16 ht => ?_
  (with_reducible refine w_nil ?_)
  refine x_put (R15.sm s16) hT (by omega) (rowIns (xs := [0, 14, 0]) 34 rfl (.dsi ⟨by decide, by decide⟩ ⟨by decide, by decide⟩) ht) fun S17 H17 g17 _ _ R17 => ?_
  (with_reducible refine w_seq ?_)
  (with_reducible refine w_drop ?_)
  (with_reducible refine w_call ?_)
  (with_reducible refine w_cons ?_)
  ((with_reducible refine' w_var ?hv ?_); (case hv => exact rfl))
  (with_reducible refine w_cons ?_)
  ((with_reducible refine' w_var ?hv ?_); (case hv => exact rfl))
  (with_reducible refine w_nil ?_)
  have g6 : S3.at_.length ≤ S9.at_.length := g9
  refine x_here R17 hT (by omega) f0 (by omega) fun S18 H18 g18 R18 => ?_
  (with_reducible refine w_seq ?_)
  (with_reducible refine w_drop ?_)
  (with_reducible refine w_call ?_)
  (with_reducible refine w_cons ?_)
  ((with_reducible refine' w_var ?hv ?_); (case hv => exact rfl))
  (with_reducible refine w_cons ?_)
  (with_reducible refine w_op ?_)
  ((with_reducible refine' w_var ?hv ?_); (case hv => exact rfl))
  (with_reducible refine w_c ?_)
  (with_reducible refine w_I0 ?_)
  (with_reducible refine w_nil ?_)
  refine x_rows R18 hT (by omega) (by omega) (by omega) (by omega) fun S19 H19 g19 R19 => ?_
  (with_reducible refine w_seq ?_)
  (with_reducible refine w_drop ?_)
  (with_reducible refine w_call ?_)
  (with_reducible refine w_cons ?_)
  ((with_reducible refine' w_var ?hv ?_); (case hv => exact rfl))
  (with_reducible refine w_cons ?_)
  (with_reducible refine w_tup ?_)
  (with_reducible refine w_cons ?_)
  (with_reducible refine w_c ?_)
  (with_reducible refine w_cons ?_)
  (with_reducible refine w_c ?_)
  (with_reducible refine w_cons ?_)
  (with_reducible refine w_tup ?_)
  (with_reducible refine w_cons ?_)
  (with_reducible refine w_c ?_)
  (with_reducible refine w_cons ?_)
  ((with_reducible refine' w_var ?hv ?_); (case hv => exact rfl))
  (with_reducible refine w_nil ?_)
  refine w_kTup (by show 2 ≤ sizeLine; decide) fun t H20 nt s20 ht => ?_
  (with_reducible refine w_nil ?_)
  refine w_kTup (by show 3 ≤ sizeLine; decide) fun t2 H21 nt2 s21 ht2 => ?_
  (with_reducible refine w_nil ?_)
  refine x_put ((R19.sm s20).sm s21) hT (by omega) (rowTo (xs := [0]) 33 rfl (fun z => .dj ⟨by decide, by decide⟩) ht2 (s21 _ _ ht) l0 (by omega)) fun S22 H22 g22 _ _ R22 => ?_
  (with_reducible refine w_seq ?_)
  (with_reducible refine w_drop ?_)
  (with_reducible refine w_call ?_)
  (with_reducible refine w_cons ?_)
  ((with_reducible refine' w_var ?hv ?_); (case hv => exact rfl))
  (with_reducible refine w_cons ?_)
  ((with_reducible refine' w_var ?hv ?_); (case hv => exact rfl))
  (with_reducible refine w_nil ?_)
  refine x_here R22 hT (by omega) s0 (by omega) fun S23 H23 g23 R23 => ?_
  (with_reducible refine w_seq ?_)
  (with_reducible refine w_drop ?_)
  (with_reducible refine w_call ?_)
  (with_reducible refine w_cons ?_)
  ((with_reducible refine' w_var ?hv ?_); (case hv => exact rfl))
  (with_reducible refine w_cons ?_)
  (with_reducible refine w_op ?_)
  ((with_reducible refine' w_var ?hv ?_); (case hv => exact rfl))
  (with_reducible refine w_c ?_)
  (with_reducible refine w_I0 ?_)
  (with_reducible refine w_nil ?_)
  refine x_rows R23 hT (by omega) (by omega) (by omega) (by omega) fun S24 H24 g24 R24 => ?_
  (with_reducible refine w_drop ?_)
  (with_reducible refine w_call ?_)
  (with_reducible refine w_cons ?_)
  ((with_reducible refine' w_var ?hv ?_); (case hv => exact rfl))
  (with_reducible refine w_cons ?_)
  ((with_reducible refine' w_var ?hv ?_); (case hv => exact rfl))
  (with_reducible refine w_nil ?_)
  refine x_here R24 hT (by omega) l0 (by omega) fun S25 H25 g25 R25 => ?_
  skip
  exact q _ _ (R25.weak (by omega) (by omega) (by omega))
theorem ok_law_rows {k : Nat} {d : Int} (hk : 5 ≤ k) (b_range : mg "range" = none) (c_law_if : Cd P w K mg base k "_law_if" (spBlk d)) (c_law_loop : Cd P w K mg base k "_law_loop" (spBlk d)) (c_law_switch : Cd P w K mg base k "_law_switch" (spBlk d)) (c_law_alu : Cd P w K mg base 4 "_law_alu" spOne) (c_law_memory : Cd P w K mg base 4 "_law_memory" spOne) (c_law_odd : Cd P w K mg base 4 "_law_odd" spOne) (c_law_call : Cd P w K mg base 5 "_law_call" spCall) (c_law_some : Cd P w K mg base 2 "_law_some" spSome) (c_law_register : Cd P w K mg base 3 "_law_register" spReg) (c_law_put_word : Cd P w K mg base 1 "_law_put_word" spPut) (Z : St1 K mg "_law_rows" s_law_rows ["p", "depth"]) : Cd P w K mg base (k + 1) "_law_rows" (spRows d) := by
  refine Z.cd sc_law_rows (fun vs H Q E h => by obtain ⟨p, S, e, rfl, _⟩ := h; rfl) (fun f cdv A outer s H vs Q E hr h => ?_)
  obtain ⟨p, S, e, rfl, ed, hP, hT, q⟩ := h
  have hu := hu_of hr
  refine ⟨_, (pss_one (ps_for PassesOwn.never rfl (pi_range1 (by rfl) b_range (pa_cons (pe_op op_add pe_int (pe_cd c_law_some hr (by first | decide | omega) (by rfl) (pa_cons (pv 0) (pa_cons pe_int pa_nil)))) pa_nil)) (pg_name (i := 2) sc_law_rows.nd rfl (.inl rfl))
      (pss_one (ps_if (pt_cmpR op_gt (pe_dget hu (pv 0) pe_str (fun _ _ => rfl)) pe_int (nomark _)) (pss_cons (ps_dput hu (pv 0) pe_str (pe_op op_sub (pe_dget hu (pv 0) pe_str (fun _ _ => rfl)) pe_int) rfl)
      (pss_cons (ps_set (i := 3) sc_law_rows.nd rfl (.inl rfl) (pe_cd c_law_some hr (by first | decide | omega) (by rfl) (pa_cons (pv 0) (pa_cons pe_int pa_nil))))
      (pss_one (ps_if (pt_cmpR op_lt (pv 3) pe_int (nomark _)) (pss_one (ps_expr (pe_cd c_law_alu hr (by first | decide | omega) (by rfl) (pa_cons (pv 0) pa_nil)))) (pss_one (ps_if (pt_cmpR op_lt (pv 3) pe_int (nomark _)) (pss_one (ps_expr (pe_cd c_law_memory hr (by first | decide | omega) (by rfl) (pa_cons (pv 0) pa_nil)))) (pss_one (ps_if (pt_cmpR op_lt (pv 3) pe_int (nomark _)) (pss_one (ps_expr (pe_cd c_law_put_word hr (by first | decide | omega) (by rfl) (pa_cons (pv 0) (pa_cons (pe_tup (pa_cons (pe_ix ix_list (pe_lst (pa_cons pe_str (pa_cons pe_str pa_nil))) (pe_cd c_law_some hr (by first | decide | omega) (by rfl) (pa_cons (pv 0) (pa_cons pe_int pa_nil))) (fun _ _ => rfl)) (pa_cons (pe_cd c_law_register hr (by first | decide | omega) (by rfl) (pa_cons (pv 0) pa_nil)) pa_nil))) pa_nil))))) (pss_one (ps_if (PW.pt (pw_and (pt_cmpR op_eq (pv 3) pe_int (nomark _)) (pw_and1 (pt_cmpR op_eq (pe_cd c_law_some hr (by first | decide | omega) (by rfl) (pa_cons (pv 0) (pa_cons pe_int pa_nil))) pe_int (nomark _))))) (pss_one (ps_expr (pe_cd c_law_odd hr (by first | decide | omega) (by rfl) (pa_cons (pv 0) pa_nil)))) (pss_one (ps_if (pt_cmpR op_le (pv 1) pe_int (nomark _)) (pss_one (ps_expr (pe_cd c_law_alu hr (by first | decide | omega) (by rfl) (pa_cons (pv 0) pa_nil)))) (pss_one (ps_if (pt_cmpR op_lt (pv 3) pe_int (nomark _)) (pss_one (ps_expr (pe_cd c_law_if hr (by first | decide | omega) (by rfl) (pa_cons (pv 0) (pa_cons (pv 1) pa_nil))))) (pss_one (ps_if (pt_cmpR op_eq (pv 3) pe_int (nomark _)) (pss_one (ps_expr (pe_cd c_law_loop hr (by first | decide | omega) (by rfl) (pa_cons (pv 0) (pa_cons (pv 1) pa_nil))))) (pss_one (ps_if (pt_cmpR op_eq (pv 3) pe_int (nomark _)) (pss_one (ps_expr (pe_cd c_law_switch hr (by first | decide | omega) (by rfl) (pa_cons (pv 0) (pa_cons (pv 1) pa_nil))))) (pss_one (ps_expr (pe_cd c_law_call hr (by first | decide | omega) (by rfl) (pa_cons (pv 0) pa_nil)))))))))))))))))))))) pss_nil)))), ?_⟩
  (with_reducible refine w_for ?_)
  (with_reducible refine w_rng1 ?_)
  (with_reducible refine w_cons ?_)
  (with_reducible refine w_op ?_)
  (with_reducible refine w_c ?_)
  (with_reducible refine w_call ?_)
  (with_reducible refine w_cons ?_)
  ((with_reducible refine' w_var ?hv ?_); (case hv => exact rfl))
  (with_reducible refine w_cons ?_)
  (with_reducible refine w_c ?_)
  (with_reducible refine w_nil ?_)
  refine x_some (Rch.refl hP) (by decide) (by decide) fun n H1 n0 n1 R1 => ?_
  (with_reducible refine w_I0 ?_)
  (with_reducible refine w_nil ?_)
  refine w_forR (1 + n).toNat (fun i σ H' => ∃ S' a b, Rch p S H 0 0 0 S' H' ∧ σ = [some (.ref p), some (.int e), a, b]) rfl (by omega) ⟨S, _, _, R1, rfl⟩ (fun i σ H2 hi h => ?_) (fun σ H2 h => ?_)
  · obtain ⟨S2, a, b, R2, rfl⟩ := h
    (with_reducible refine w_name ?_)
    (with_reducible refine w_ifS ?_)
    (with_reducible refine w_test ?_)
    (with_reducible refine w_op ?_)
    (with_reducible refine w_dget ?_)
    ((with_reducible refine' w_var ?hv ?_); (case hv => exact rfl))
    (with_reducible refine w_c ?_)
    refine w_kDG R2.pt.hp rfl ?_
    (with_reducible refine w_c ?_)
    (with_reducible refine w_I0 ?_)
    (with_reducible refine w_bl ?_)
    refine w_dec (fun e2 => ?_) (fun e2 => ?_)
    · (with_reducible refine w_seq ?_)
      (with_reducible refine w_dput ?_)
      (with_reducible refine w_op ?_)
      (with_reducible refine w_dget ?_)
      ((with_reducible refine' w_var ?hv ?_); (case hv => exact rfl))
      (with_reducible refine w_c ?_)
      refine w_kDG R2.pt.hp rfl ?_
      (with_reducible refine w_c ?_)
      (with_reducible refine w_I0 ?_)
      ((with_reducible refine' w_var ?hv ?_); (case hv => exact rfl))
      (with_reducible refine w_c ?_)
      refine w_kDP R2.pt.hp (by show 6 < 1000; decide) rfl fun H3 hp3 b3 => ?_
      obtain ⟨hP3, f3⟩ := R2.pt.lft b3 hp3 (n := S2.left - 1) (by omega)
      have hT3 : Tot { S2 with left := S2.left - 1 } 89994 := by
        have := R2.c6; have := R2.a6; have := R2.t6
        have := hT.c; have := hT.a; have := hT.t
        exact ⟨by show (S2.code.length : Int) + 6 * (S2.left - 1) ≤ _; omega, by show (S2.at_.length : Int) + 6 * (S2.left - 1) ≤ _; omega, by show (S2.tbl.length : Int) + 6 * (S2.left - 1) ≤ _; omega, by show S2.calls.length ≤ 90000; rw [R2.eq]; exact hT.l⟩
      have R3 := Rch.refl hP3
      (with_reducible refine w_seq ?_)
      (with_reducible refine w_asg ?_)
      (with_reducible refine w_call ?_)
      (with_reducible refine w_cons ?_)
      ((with_reducible refine' w_var ?hv ?_); (case hv => exact rfl))
      (with_reducible refine w_cons ?_)
      (with_reducible refine w_c ?_)
      (with_reducible refine w_nil ?_)
      refine x_some R3 (by decide) (by decide) fun wh H4 _ _ R4 => ?_
      (with_reducible refine w_name ?_)
      (with_reducible refine w_ifS ?_)
      (with_reducible refine w_test ?_)
      (with_reducible refine w_op ?_)
      ((with_reducible refine' w_var ?hv ?_); (case hv => exact rfl))
      (with_reducible refine w_c ?_)
      (with_reducible refine w_I0 ?_)
      (with_reducible refine w_bl ?_)
      refine w_dec (fun e3 => ?_) (fun e3 => ?_)
      · (with_reducible refine w_drop ?_)
        (with_reducible refine w_call ?_)
        (with_reducible refine w_cons ?_)
        ((with_reducible refine' w_var ?hv ?_); (case hv => exact rfl))
        (with_reducible refine w_nil ?_)
        refine x_one R4 hT3 (by omega) fun S5 H5 R5 => ?_
        skip
        exact ⟨S5, _, _, R2.dec f3 (R5.weak (by omega) (by omega) (by omega)), rfl⟩
      · (with_reducible refine w_ifS ?_)
        (with_reducible refine w_test ?_)
        (with_reducible refine w_op ?_)
        ((with_reducible refine' w_var ?hv ?_); (case hv => exact rfl))
        (with_reducible refine w_c ?_)
        (with_reducible refine w_I0 ?_)
        (with_reducible refine w_bl ?_)
        refine w_dec (fun e3 => ?_) (fun e3 => ?_)
        · (with_reducible refine w_drop ?_)
          (with_reducible refine w_call ?_)
          (with_reducible refine w_cons ?_)
          ((with_reducible refine' w_var ?hv ?_); (case hv => exact rfl))
          (with_reducible refine w_nil ?_)
          refine x_one R4 hT3 (by omega) fun S5 H5 R5 => ?_
          skip
          exact ⟨S5, _, _, R2.dec f3 (R5.weak (by omega) (by omega) (by omega)), rfl⟩
        · (with_reducible refine w_ifS ?_)
          (with_reducible refine w_test ?_)
          (with_reducible refine w_op ?_)
          ((with_reducible refine' w_var ?hv ?_); (case hv => exact rfl))
          (with_reducible refine w_c ?_)
          (with_reducible refine w_I0 ?_)
          (with_reducible refine w_bl ?_)
          refine w_dec (fun e3 => ?_) (fun e3 => ?_)
          · (with_reducible refine w_drop ?_)
            (with_reducible refine w_call ?_)
            (with_reducible refine w_cons ?_)
            ((with_reducible refine' w_var ?hv ?_); (case hv => exact rfl))
            (with_reducible refine w_cons ?_)
            (with_reducible refine w_tup ?_)
            (with_reducible refine w_cons ?_)
            (with_reducible refine w_op ?_)
            (with_reducible refine w_lst ?_)
            (with_reducible refine w_cons ?_)
            (with_reducible refine w_c ?_)
            (with_reducible refine w_cons ?_)
            (with_reducible refine w_c ?_)
            (with_reducible refine w_nil ?_)
            refine w_kLst (by show 2 ≤ sizeLine; decide) fun l H12 nl s12 hl12 => ?_
            (with_reducible refine w_call ?_)
            (with_reducible refine w_cons ?_)
            ((with_reducible refine' w_var ?hv ?_); (case hv => exact rfl))
            (with_reducible refine w_cons ?_)
            (with_reducible refine w_c ?_)
            (with_reducible refine w_nil ?_)
            refine w_some (R4.pt.same s12) (by decide) (by decide) fun j H13 j0 j1 hP13 f13 => ?_
            obtain ⟨v, hv, hat⟩ := pick_any [V.str "get", V.str "put"] j0 j1
            obtain ⟨wd, ⟨n, fm, hn, hfm⟩, rfl⟩ : ∃ i, OneW i ∧ v = .str i := by
              simp only [List.mem_cons, List.not_mem_nil, or_false] at hv
              rcases hv with rfl | rfl
              · exact ⟨_, ⟨35, "d", rfl, fun _ h => .d h⟩, rfl⟩
              · exact ⟨_, ⟨36, "s", rfl, fun _ h => .s h⟩, rfl⟩
            refine w_ixL (R4.pt.kept nl hl12 f13) hat ?_
            have R13 := (R4.sm s12).of hP13 f13
            (with_reducible refine w_cons ?_)
            (with_reducible refine w_call ?_)
            (with_reducible refine w_cons ?_)
            ((with_reducible refine' w_var ?hv ?_); (case hv => exact rfl))
            (with_reducible refine w_nil ?_)
            refine x_reg R13 fun ra H14 hra R14 => ?_
            (with_reducible refine w_nil ?_)
            refine w_kTup (by show 2 ≤ sizeLine; decide) fun t H15 nt s15 ht => ?_
            (with_reducible refine w_nil ?_)
            refine x_put (R14.sm s15) hT3 (by omega) (rowIns (xs := [ra]) n hn (hfm _ hra) ht) fun S16 H16 g16 _ _ R16 => ?_
            skip
            exact ⟨S16, _, _, R2.dec f3 (R16.weak (by omega) (by omega) (by omega)), rfl⟩
          · (with_reducible refine w_ifS ?_)
            (with_reducible refine w_andT ?_)
            (with_reducible refine w_test ?_)
            (with_reducible refine w_op ?_)
            ((with_reducible refine' w_var ?hv ?_); (case hv => exact rfl))
            (with_reducible refine w_c ?_)
            (with_reducible refine w_eqI ?_)
            (with_reducible refine w_bl ?_)
            refine w_dec (fun e5 => ?_) (fun e5 => ?_)
            · (with_reducible refine w_test ?_)
              (with_reducible refine w_op ?_)
              (with_reducible refine w_call ?_)
              (with_reducible refine w_cons ?_)
              ((with_reducible refine' w_var ?hv ?_); (case hv => exact rfl))
              (with_reducible refine w_cons ?_)
              (with_reducible refine w_c ?_)
              (with_reducible refine w_nil ?_)
              refine x_some R4 (by decide) (by decide) fun o H5 _ _ R5 => ?_
              (with_reducible refine w_c ?_)
              (with_reducible refine w_eqI ?_)
              (with_reducible refine w_bl ?_)
              refine w_dec (fun e6 => ?_) (fun e6 => ?_)
              · (with_reducible refine w_drop ?_)
                (with_reducible refine w_call ?_)
                (with_reducible refine w_cons ?_)
                ((with_reducible refine' w_var ?hv ?_); (case hv => exact rfl))
                (with_reducible refine w_nil ?_)
                refine x_one R5 hT3 (by omega) fun S6 H6 R6 => ?_
                skip
                exact ⟨S6, _, _, R2.dec f3 (R6.weak (by omega) (by omega) (by omega)), rfl⟩
              · (with_reducible refine w_ifS ?_)
                (with_reducible refine w_test ?_)
                (with_reducible refine w_op ?_)
                ((with_reducible refine' w_var ?hv ?_); (case hv => exact rfl))
                (with_reducible refine w_c ?_)
                (with_reducible refine w_I0 ?_)
                (with_reducible refine w_bl ?_)
                refine w_dec (fun e6 => ?_) (fun e6 => ?_)
                · (with_reducible refine w_drop ?_)
                  (with_reducible refine w_call ?_)
                  (with_reducible refine w_cons ?_)
                  ((with_reducible refine' w_var ?hv ?_); (case hv => exact rfl))
                  (with_reducible refine w_nil ?_)
                  refine x_one R5 hT3 (by omega) fun S6 H6 R6 => ?_
                  skip
                  exact ⟨S6, _, _, R2.dec f3 (R6.weak (by omega) (by omega) (by omega)), rfl⟩
                · (with_reducible refine w_ifS ?_)
                  (with_reducible refine w_test ?_)
                  (with_reducible refine w_op ?_)
                  ((with_reducible refine' w_var ?hv ?_); (case hv => exact rfl))
                  (with_reducible refine w_c ?_)
                  (with_reducible refine w_I0 ?_)
                  (with_reducible refine w_bl ?_)
                  refine w_dec (fun e7 => ?_) (fun e7 => ?_)
                  · (with_reducible refine w_drop ?_)
                    (with_reducible refine w_call ?_)
                    (with_reducible refine w_cons ?_)
                    ((with_reducible refine' w_var ?hv ?_); (case hv => exact rfl))
                    (with_reducible refine w_cons ?_)
                    ((with_reducible refine' w_var ?hv ?_); (case hv => exact rfl))
                    (with_reducible refine w_nil ?_)
                    refine ⟨p, _, e, rfl, by omega, ed, R5.pt, hT3, fun S6 H6 R6 => ?_⟩
                    skip
                    exact ⟨S6, _, _, R2.dec f3 ((R5.trans R6).weak (by omega) (by omega) (by omega)), rfl⟩
                  · (with_reducible refine w_ifS ?_)
                    (with_reducible refine w_test ?_)
                    (with_reducible refine w_op ?_)
                    ((with_reducible refine' w_var ?hv ?_); (case hv => exact rfl))
                    (with_reducible refine w_c ?_)
                    (with_reducible refine w_eqI ?_)
                    (with_reducible refine w_bl ?_)
                    refine w_dec (fun e8 => ?_) (fun e8 => ?_)
                    · (with_reducible refine w_drop ?_)
                      (with_reducible refine w_call ?_)
                      (with_reducible refine w_cons ?_)
                      ((with_reducible refine' w_var ?hv ?_); (case hv => exact rfl))
                      (with_reducible refine w_cons ?_)
                      ((with_reducible refine' w_var ?hv ?_); (case hv => exact rfl))
                      (with_reducible refine w_nil ?_)
                      refine ⟨p, _, e, rfl, by omega, ed, R5.pt, hT3, fun S6 H6 R6 => ?_⟩
                      skip
                      exact ⟨S6, _, _, R2.dec f3 ((R5.trans R6).weak (by omega) (by omega) (by omega)), rfl⟩
                    · (with_reducible refine w_ifS ?_)
                      (with_reducible refine w_test ?_)
                      (with_reducible refine w_op ?_)
                      ((with_reducible refine' w_var ?hv ?_); (case hv => exact rfl))
                      (with_reducible refine w_c ?_)
                      (with_reducible refine w_eqI ?_)
                      (with_reducible refine w_bl ?_)
                      refine w_dec (fun e9 => ?_) (fun e9 => ?_)
                      · (with_reducible refine w_drop ?_)
                        (with_reducible refine w_call ?_)
                        (with_reducible refine w_cons ?_)
                        ((with_reducible refine' w_var ?hv ?_); (case hv => exact rfl))
                        (with_reducible refine w_cons ?_)
                        ((with_reducible refine' w_var ?hv ?_); (case hv => exact rfl))
                        (with_reducible refine w_nil ?_)
                        refine ⟨p, _, e, rfl, by omega, ed, R5.pt, hT3, fun S6 H6 R6 => ?_⟩
                        skip
                        exact ⟨S6, _, _, R2.dec f3 ((R5.trans R6).weak (by omega) (by omega) (by omega)), rfl⟩
                      · (with_reducible refine w_drop ?_)
                        (with_reducible refine w_call ?_)
                        (with_reducible refine w_cons ?_)
                        ((with_reducible refine' w_var ?hv ?_); (case hv => exact rfl))
                        (with_reducible refine w_nil ?_)
                        refine x_call R5 hT3 (by omega) fun S6 H6 R6 => ?_
                        skip
                        exact ⟨S6, _, _, R2.dec f3 (R6.weak (by omega) (by omega) (by omega)), rfl⟩
            · have R5 := R4
              (with_reducible refine w_itF ?_)
              (with_reducible refine w_ifS ?_)
              (with_reducible refine w_test ?_)
              (with_reducible refine w_op ?_)
              ((with_reducible refine' w_var ?hv ?_); (case hv => exact rfl))
              (with_reducible refine w_c ?_)
              (with_reducible refine w_I0 ?_)
              (with_reducible refine w_bl ?_)
              refine w_dec (fun e6 => ?_) (fun e6 => ?_)
              · (with_reducible refine w_drop ?_)
                (with_reducible refine w_call ?_)
                (with_reducible refine w_cons ?_)
                ((with_reducible refine' w_var ?hv ?_); (case hv => exact rfl))
                (with_reducible refine w_nil ?_)
                refine x_one R5 hT3 (by omega) fun S6 H6 R6 => ?_
                skip
                exact ⟨S6, _, _, R2.dec f3 (R6.weak (by omega) (by omega) (by omega)), rfl⟩
              · (with_reducible refine w_ifS ?_)
                (with_reducible refine w_test ?_)
                (with_reducible refine w_op ?_)
                ((with_reducible refine' w_var ?hv ?_); (case hv => exact rfl))
                (with_reducible refine w_c ?_)
                (with_reducible refine w_I0 ?_)
                (with_reducible refine w_bl ?_)
                refine w_dec (fun e7 => ?_) (fun e7 => ?_)
                · (with_reducible refine w_drop ?_)
                  (with_reducible refine w_call ?_)
                  (with_reducible refine w_cons ?_)
                  ((with_reducible refine' w_var ?hv ?_); (case hv => exact rfl))
                  (with_reducible refine w_cons ?_)
                  ((with_reducible refine' w_var ?hv ?_); (case hv => exact rfl))
                  (with_reducible refine w_nil ?_)
                  refine ⟨p, _, e, rfl, by omega, ed, R5.pt, hT3, fun S6 H6 R6 => ?_⟩
                  skip
                  exact ⟨S6, _, _, R2.dec f3 ((R5.trans R6).weak (by omega) (by omega) (by omega)), rfl⟩
                · (with_reducible refine w_ifS ?_)
                  (with_reducible refine w_test ?_)
                  (with_reducible refine w_op ?_)
                  ((with_reducible refine' w_var ?hv ?_); (case hv => exact rfl))
                  (with_reducible refine w_c ?_)
                  (with_reducible refine w_eqI ?_)
                  (with_reducible refine w_bl ?_)
                  refine w_dec (fun e8 => ?_) (fun e8 => ?_)
                  · (with_reducible refine w_drop ?_)
                    (with_reducible refine w_call ?_)
                    (with_reducible refine w_cons ?_)
                    ((with_reducible refine' w_var ?hv ?_); (case hv => exact rfl))
                    (with_reducible refine w_cons ?_)
                    ((with_reducible refine' w_var ?hv ?_); (case hv => exact rfl))
                    (with_reducible refine w_nil ?_)
                    refine ⟨p, _, e, rfl, by omega, ed, R5.pt, hT3, fun S6 H6 R6 => ?_⟩
                    skip
                    exact ⟨S6, _, _, R2.dec f3 ((R5.trans R6).weak (by omega) (by omega) (by omega)), rfl⟩
                  · (with_reducible refine w_ifS ?_)
                    (with_reducible refine w_test ?_)
                    (with_reducible refine w_op ?_)
                    ((with_reducible refine' w_var ?hv ?_); (case hv => exact rfl))
                    (with_reducible refine w_c ?_)
                    (with_reducible refine w_eqI ?_)
                    (with_reducible refine w_bl ?_)
                    refine w_dec (fun e9 => ?_) (fun e9 => ?_)
                    · (with_reducible refine w_drop ?_)
                      (with_reducible refine w_call ?_)
                      (with_reducible refine w_cons ?_)
                      ((with_reducible refine' w_var ?hv ?_); (case hv => exact rfl))
                      (with_reducible refine w_cons ?_)
                      ((with_reducible refine' w_var ?hv ?_); (case hv => exact rfl))
                      (with_reducible refine w_nil ?_)
                      refine ⟨p, _, e, rfl, by omega, ed, R5.pt, hT3, fun S6 H6 R6 => ?_⟩
                      skip
                      exact ⟨S6, _, _, R2.dec f3 ((R5.trans R6).weak (by omega) (by omega) (by omega)), rfl⟩
                    · (with_reducible refine w_drop ?_)
                      (with_reducible refine w_call ?_)
                      (with_reducible refine w_cons ?_)
                      ((with_reducible refine' w_var ?hv ?_); (case hv => exact rfl))
                      (with_reducible refine w_nil ?_)
                      refine x_call R5 hT3 (by omega) fun S6 H6 R6 => ?_
                      skip
                      exact ⟨S6, _, _, R2.dec f3 (R6.weak (by omega) (by omega) (by omega)), rfl⟩
    · (with_reducible refine w_next ?_)
      exact ⟨S2, _, _, R2, rfl⟩
  · obtain ⟨S2, a, b, R2, rfl⟩ := h
    exact q _ _ R2
end
end K06

namespace K06
theorem sc_law_word : FnScope ["row", "word"] ["row"] (defScope s_law_word) := ⟨rfl, rfl, rfl, by decide +kernel, rfl, by decide +kernel, by decide +kernel⟩
theorem sc_law_bytes : FnScope ["word"] ["word"] (defScope s_law_bytes) := ⟨rfl, rfl, rfl, by decide +kernel, rfl, by decide +kernel, by decide +kernel⟩
theorem sc_law_values : FnScope ["words", "found", "word"] ["words"] (defScope s_law_values) := ⟨rfl, rfl, rfl, by decide +kernel, rfl, by decide +kernel, by decide +kernel⟩
theorem first_at {n : Nat} {op fm : Str} (h : opsT[n]? = some (op, fm)) : (opsT.map (·.1))[n]? = some op ∧ (∀ m, m < n → (opsT.map (·.1))[m]? ≠ some op) := by
  have hn : n < 38 := (List.getElem?_eq_some_iff.mp h).1
  have e : (opsT.map (·.1))[n]? = some op := by rw [List.getElem?_map, h]; rfl
  refine ⟨e, fun m hm z => ?_⟩
  have := ops_nodup m (by omega) n hn (by rw [← List.getElem?_map, ← List.getElem?_map, z, e])
  omega
theorem op_dss : ∀ n, n < 38 → ∀ p : Str × Str, opsT[n]? = some p → (((p.2 = ("dss" : Str)) ↔ n < 13) ∧ p.1 ≠ "word") := by
  have h : ∀ n, n < 38 → (match opsT[n]? with | some p => decide (((p.2 = "dss") ↔ n < 13) ∧ p.1 ≠ "word") | none => true) = true := by decide +kernel
  intro n hn p e
  have := h n hn
  rw [e] at this
  exact of_decide_eq_true this
section
variable {P : Program} {w : World} {K : PySem.W.Frag} {mg : Str → Option Value} {base : Heap}
theorem base_if (Z : St1 K mg "_law_if" s_law_if ["p", "depth"]) : Cd P w K mg base 5 "_law_if" (spBlk 0) :=
  Z.cd sc_law_if (fun vs H Q E h => by obtain ⟨p, S, e, rfl, _⟩ := h; rfl) (fun f cdv A outer s H vs Q E hr h => by obtain ⟨p, S, e, rfl, e0, ed, _⟩ := h; omega)
theorem base_loop (Z : St1 K mg "_law_loop" s_law_loop ["p", "depth"]) : Cd P w K mg base 5 "_law_loop" (spBlk 0) :=
  Z.cd sc_law_loop (fun vs H Q E h => by obtain ⟨p, S, e, rfl, _⟩ := h; rfl) (fun f cdv A outer s H vs Q E hr h => by obtain ⟨p, S, e, rfl, e0, ed, _⟩ := h; omega)
theorem base_switch (Z : St1 K mg "_law_switch" s_law_switch ["p", "depth"]) : Cd P w K mg base 5 "_law_switch" (spBlk 0) :=
  Z.cd sc_law_switch (fun vs H Q E h => by obtain ⟨p, S, e, rfl, _⟩ := h; rfl) (fun f cdv A outer s H vs Q E hr h => by obtain ⟨p, S, e, rfl, e0, ed, _⟩ := h; omega)
theorem ok_law_rows2 (b_range : mg "range" = none) (b_len : mg "len" = none) (Zi : St1 K mg "_law_if" s_law_if ["p", "depth"]) (Zl : St1 K mg "_law_loop" s_law_loop ["p", "depth"]) (Zs : St1 K mg "_law_switch" s_law_switch ["p", "depth"]) (Z : St1 K mg "_law_rows" s_law_rows ["p", "depth"])
    (c_law_alu : Cd P w K mg base 4 "_law_alu" spOne) (c_law_memory : Cd P w K mg base 4 "_law_memory" spOne) (c_law_odd : Cd P w K mg base 4 "_law_odd" spOne) (c_law_call : Cd P w K mg base 5 "_law_call" spCall) (c_law_some : Cd P w K mg base 2 "_law_some" spSome) (c_law_register : Cd P w K mg base 3 "_law_register" spReg) (c_law_put_word : Cd P w K mg base 1 "_law_put_word" spPut) (c_law_label : Cd P w K mg base 1 "_law_label" spLabel) (c_law_here : Cd P w K mg base 1 "_law_here" spHere) : Cd P w K mg base 10 "_law_rows" (spRows 2) := by
  have r0 : Cd P w K mg base 6 "_law_rows" (spRows 0) := ok_law_rows (by decide) b_range (base_if Zi) (base_loop Zl) (base_switch Zs) c_law_alu c_law_memory c_law_odd c_law_call c_law_some c_law_register c_law_put_word Z
  have i1 : Cd P w K mg base 7 "_law_if" (spBlk 1) := ok_law_if (by decide) r0 c_law_label c_law_here c_law_some c_law_register c_law_put_word Zi
  have l1 : Cd P w K mg base 7 "_law_loop" (spBlk 1) := ok_law_loop (by decide) r0 c_law_label c_law_here c_law_some c_law_put_word Zl
  have s1 : Cd P w K mg base 7 "_law_switch" (spBlk 1) := ok_law_switch (by decide) b_len r0 c_law_label c_law_here c_law_register c_law_put_word Zs
  have r1 : Cd P w K mg base 8 "_law_rows" (spRows 1) := ok_law_rows (by decide) b_range i1 l1 s1 c_law_alu c_law_memory c_law_odd c_law_call c_law_some c_law_register c_law_put_word Z
  have i2 : Cd P w K mg base 9 "_law_if" (spBlk 2) := ok_law_if (by decide) r1 c_law_label c_law_here c_law_some c_law_register c_law_put_word Zi
  have l2 : Cd P w K mg base 9 "_law_loop" (spBlk 2) := ok_law_loop (by decide) r1 c_law_label c_law_here c_law_some c_law_put_word Zl
  have s2 : Cd P w K mg base 9 "_law_switch" (spBlk 2) := ok_law_switch (by decide) b_len r1 c_law_label c_law_here c_law_register c_law_put_word Zs
  exact ok_law_rows (by decide) b_range i2 l2 s2 c_law_alu c_law_memory c_law_odd c_law_call c_law_some c_law_register c_law_put_word Z
theorem fresh {H H2 : Hp} {p : Addr} (s : Same H H2) (n : H2 p = none) : H p = none := by
  cases e : H p with
  | none => rfl
  | some o => have := s _ _ e; rw [n] at this; cases this
def W32 (x : Int) : Prop := 0 ≤ x ∧ x < 4294967296
def B8 (x : Int) : Prop := 0 ≤ x ∧ x < 256
def spWordR (K : PySem.W.Frag) : Sp := fun vs H Q _ => ∃ (t : Addr) (n : Nat) (op fm : Str) (xs : List Int), vs = [.ref t] ∧ SqT K H t (insV op xs) ∧ opsT[n]? = some (op, fm) ∧ RFits fm xs ∧ ∀ x H', W32 x → Same H H' → Q (.int x) H'
def spBytes : Sp := fun vs H Q _ => ∃ x : Int, vs = [.int x] ∧ W32 x ∧ ∀ (bs : List Int) p H', bs.length = 4 → (∀ b ∈ bs, B8 b) → H p = none → Same H H' → H' p = some (.lst (bs.map V.int)) → Q (.ref p) H'
theorem ok_law_bytes (b_int : mg "int" = none) (Z : St1 K mg "_law_bytes" s_law_bytes ["word"]) : Cd P w K mg base 1 "_law_bytes" spBytes := by
  refine Z.cd sc_law_bytes (fun vs H Q E h => by obtain ⟨x, rfl, _⟩ := h; rfl) (fun f cdv A outer s H vs Q E hr h => ?_)
  obtain ⟨x, rfl, ⟨x0, x1⟩, q⟩ := h
  refine ⟨_, (pss_one (ps_ret (pe_lst (pa_cons (pe_op op_mod (pe_callTy call_intQ (by rfl) b_int (by decide +kernel) (pa_cons (pv 0) pa_nil)) pe_int) (pa_cons (pe_op op_mod (pe_op op_fdiv (pv 0) pe_int) pe_int) (pa_cons (pe_op op_mod (pe_op op_fdiv (pv 0) pe_int) pe_int) (pa_cons (pe_op op_fdiv (pv 0) pe_int) pa_nil))))))), ?_⟩
  (with_reducible refine w_ret ?_)
  (with_reducible refine w_lst ?_)
  (with_reducible refine w_cons ?_)
  (with_reducible refine w_op ?_)
  (with_reducible refine w_cb ?_)
  (with_reducible refine w_cons ?_)
  ((with_reducible refine' w_var ?hv ?_); (case hv => exact rfl))
  (with_reducible refine w_nil ?_)
  (with_reducible refine w_int1 ?_)
  (with_reducible refine w_c ?_)
  ((with_reducible refine w_I ?hc ?_); (case hc => walk_at "side"))
  (with_reducible refine w_cons ?_)
  (with_reducible refine w_op ?_)
  (with_reducible refine w_op ?_)
  ((with_reducible refine' w_var ?hv ?_); (case hv => exact rfl))
  (with_reducible refine w_c ?_)
  ((with_reducible refine w_I ?hc ?_); (case hc => walk_at "side"))
  (with_reducible refine w_c ?_)
  ((with_reducible refine w_I ?hc ?_); (case hc => walk_at "side"))
  (with_reducible refine w_cons ?_)
  (with_reducible refine w_op ?_)
  (with_reducible refine w_op ?_)
  ((with_reducible refine' w_var ?hv ?_); (case hv => exact rfl))
  (with_reducible refine w_c ?_)
  ((with_reducible refine w_I ?hc ?_); (case hc => walk_at "side"))
  (with_reducible refine w_c ?_)
  ((with_reducible refine w_I ?hc ?_); (case hc => walk_at "side"))
  (with_reducible refine w_cons ?_)
  (with_reducible refine w_op ?_)
  ((with_reducible refine' w_var ?hv ?_); (case hv => exact rfl))
  (with_reducible refine w_c ?_)
  ((with_reducible refine w_I ?hc ?_); (case hc => walk_at "side"))
  (with_reducible refine w_nil ?_)
  refine w_kLst (by show 4 ≤ sizeLine; decide) fun p H' np sm hp => ?_
  refine q [x % 256, x / 256 % 256, x / 65536 % 256, x / 16777216] p H' rfl (fun b hb => ?_) np sm hp
  simp only [List.mem_cons, List.not_mem_nil, or_false] at hb
  rcases hb with rfl | rfl | rfl | rfl <;> exact ⟨by omega, by omega⟩
theorem ok_law_word (b_len : mg "len" = none) (b_int : mg "int" = none) (c_law_ops : Cd P w K mg base 1 "_law_ops" spOps) (Z : St1 K mg "_law_word" s_law_word ["row"]) : Cd P w K mg base 2 "_law_word" (spWordR K) := by
  refine Z.cd sc_law_word (fun vs H Q E h => by obtain ⟨t, n, op, fm, xs, rfl, _⟩ := h; rfl) (fun f cdv A outer s H vs Q E hr h => ?_)
  obtain ⟨t, n, op, fm, xs, rfl, ht, hi, hf, q⟩ := h
  have hn : n < 38 := (List.getElem?_eq_some_iff.mp hi).1
  obtain ⟨at1, at2⟩ := first_at hi
  have of := (op_dss n hn _ hi).1
  refine ⟨_, (pss_cons (ps_set (i := 1) sc_law_word.nd rfl (.inl rfl) (pe_op op_add (pe_op op_mul (pe_op op_add (pe_bm PySem.F.plainAttrs_list PySem.F.slot_list_index PySem.F.type_list_index mt_index (pe_cd0 c_law_ops hr (by first | decide | omega) (by rfl)) (pa_cons (pe_ix ix_tup (pv 0) pe_int (fun _ _ => rfl)) pa_nil)) pe_int) (pe_op op_pow pe_int pe_int)) (pe_op op_mul (pe_ix ix_tup (pv 0) pe_int (fun _ _ => rfl)) (pe_op op_pow pe_int pe_int))))
      (pss_cons (ps_if (pt_cmpR op_eq (pe_callB call_lenQ (by rfl) b_len PySem.boot_len (pa_cons (pv 0) pa_nil)) pe_int (nomark _)) (pss_one (ps_ret (pv 1))) pss_nil)
      (pss_cons (ps_if (pt_cmpR op_eq (pe_callB call_lenQ (by rfl) b_len PySem.boot_len (pa_cons (pv 0) pa_nil)) pe_int (nomark _)) (pss_one (ps_ret (pe_op op_add (pv 1) (pe_op op_mod (pe_callTy call_intQ (by rfl) b_int (by decide +kernel) (pa_cons (pe_ix ix_tup (pv 0) pe_int (fun _ _ => rfl)) pa_nil)) (pe_op op_pow pe_int pe_int))))) pss_nil)
      (pss_cons (ps_if (pt_cmpR op_lt (pe_bm PySem.F.plainAttrs_list PySem.F.slot_list_index PySem.F.type_list_index mt_index (pe_cd0 c_law_ops hr (by first | decide | omega) (by rfl)) (pa_cons (pe_ix ix_tup (pv 0) pe_int (fun _ _ => rfl)) pa_nil)) pe_int (nomark _)) (pss_one (ps_ret (pe_op op_add (pe_op op_add (pv 1) (pe_op op_mul (pe_ix ix_tup (pv 0) pe_int (fun _ _ => rfl)) (pe_op op_pow pe_int pe_int))) (pe_op op_mul (pe_ix ix_tup (pv 0) pe_int (fun _ _ => rfl)) (pe_op op_pow pe_int pe_int))))) pss_nil)
      (pss_one (ps_ret (pe_op op_add (pe_op op_add (pv 1) (pe_op op_mul (pe_ix ix_tup (pv 0) pe_int (fun _ _ => rfl)) (pe_op op_pow pe_int pe_int))) (pe_op op_mod (pe_callTy call_intQ (by rfl) b_int (by decide +kernel) (pa_cons (pe_ix ix_tup (pv 0) pe_int (fun _ _ => rfl)) pa_nil)) (pe_op op_pow pe_int pe_int))))))))), ?_⟩
  (with_reducible refine w_seq ?_)
  (with_reducible refine w_asg ?_)
  (with_reducible refine w_op ?_)
  (with_reducible refine w_op ?_)
  (with_reducible refine w_op ?_)
  (with_reducible refine w_bm ?_)
  (with_reducible refine w_call ?_)
  (with_reducible refine w_nil ?_)
  refine ⟨rfl, fun p H1 np sm hp => ?_⟩
  ((with_reducible refine' w_tyL ?hh ?_); (case hh => assumption))
  (with_reducible refine w_cons ?_)
  (with_reducible refine w_op ?_)
  ((with_reducible refine' w_var ?hv ?_); (case hv => exact rfl))
  (with_reducible refine w_c ?_)
  refine w_ixTs (sm.sqT ht) (atI_of (v := .str op) (by decide) rfl) ?_
  (with_reducible refine w_nil ?_)
  refine w_lix hp at1 at2 ?_
  (with_reducible refine w_c ?_)
  (with_reducible refine w_I0 ?_)
  (with_reducible refine w_op ?_)
  (with_reducible refine w_c ?_)
  (with_reducible refine w_c ?_)
  (with_reducible refine w_p26 ?_)
  ((with_reducible refine w_I ?hc ?_); (case hc => walk_at "side"))
  (with_reducible refine w_op ?_)
  (with_reducible refine w_op ?_)
  ((with_reducible refine' w_var ?hv ?_); (case hv => exact rfl))
  (with_reducible refine w_c ?_)
  have key : ∀ (a : Int) (r : List Int), xs = a :: r → R16 a := by
    intro a r e
    cases hf <;> (cases e; assumption)
  cases hf with
  | dss ha hb hc =>
    rename_i a b c
    have hn13 := of.mp rfl
    unfold R16 at ha hb hc
    refine w_ixTs (sm.sqT ht) (atI_of (v := .int a) (by decide) rfl) ?_
    (with_reducible refine w_op ?_)
    (with_reducible refine w_c ?_)
    (with_reducible refine w_c ?_)
    (with_reducible refine w_p22 ?_)
    ((with_reducible refine w_I ?hc ?_); (case hc => walk_at "side"))
    (with_reducible refine w_I0 ?_)
    (with_reducible refine w_name ?_)
    (with_reducible refine w_seq ?_)
    (with_reducible refine w_ifS ?_)
    (with_reducible refine w_test ?_)
    (with_reducible refine w_op ?_)
    (with_reducible refine w_cb ?_)
    (with_reducible refine w_cons ?_)
    ((with_reducible refine' w_var ?hv ?_); (case hv => exact rfl))
    (with_reducible refine w_nil ?_)
    refine w_lenTn 4 (sm.sqT ht) rfl ?_
    (with_reducible refine w_c ?_)
    (with_reducible refine w_eqI ?_)
    (with_reducible refine w_bl ?_)
    (refine w_decF ?hd ?_; (case hd => decide))
    (with_reducible refine w_next ?_)
    (with_reducible refine w_seq ?_)
    (with_reducible refine w_ifS ?_)
    (with_reducible refine w_test ?_)
    (with_reducible refine w_op ?_)
    (with_reducible refine w_cb ?_)
    (with_reducible refine w_cons ?_)
    ((with_reducible refine' w_var ?hv ?_); (case hv => exact rfl))
    (with_reducible refine w_nil ?_)
    refine w_lenTn 4 (sm.sqT ht) rfl ?_
    (with_reducible refine w_c ?_)
    (with_reducible refine w_eqI ?_)
    (with_reducible refine w_bl ?_)
    (refine w_decF ?hd ?_; (case hd => decide))
    (with_reducible refine w_next ?_)
    (with_reducible refine w_seq ?_)
    (with_reducible refine w_ifS ?_)
    (with_reducible refine w_test ?_)
    (with_reducible refine w_op ?_)
    (with_reducible refine w_bm ?_)
    (with_reducible refine w_call ?_)
    (with_reducible refine w_nil ?_)
    refine ⟨rfl, fun p2 H2 np2 sm2 hp2 => ?_⟩
    have ht2 := (sm.trans sm2).sqT ht
    ((with_reducible refine' w_tyL ?hh ?_); (case hh => assumption))
    (with_reducible refine w_cons ?_)
    (with_reducible refine w_op ?_)
    ((with_reducible refine' w_var ?hv ?_); (case hv => exact rfl))
    (with_reducible refine w_c ?_)
    refine w_ixTs ht2 (atI_of (v := .str op) (by decide) rfl) ?_
    (with_reducible refine w_nil ?_)
    refine w_lix hp2 at1 at2 ?_
    (with_reducible refine w_c ?_)
    (with_reducible refine w_I0 ?_)
    (with_reducible refine w_bl ?_)
    refine w_decT (by omega) ?_
    (with_reducible refine w_ret ?_)
    (with_reducible refine w_op ?_)
    (with_reducible refine w_op ?_)
    ((with_reducible refine' w_var ?hv ?_); (case hv => exact rfl))
    (with_reducible refine w_op ?_)
    (with_reducible refine w_op ?_)
    ((with_reducible refine' w_var ?hv ?_); (case hv => exact rfl))
    (with_reducible refine w_c ?_)
    refine w_ixTs ht2 (atI_of (v := .int b) (by decide) rfl) ?_
    (with_reducible refine w_op ?_)
    (with_reducible refine w_c ?_)
    (with_reducible refine w_c ?_)
    (with_reducible refine w_p18 ?_)
    ((with_reducible refine w_I ?hc ?_); (case hc => walk_at "side"))
    (with_reducible refine w_I0 ?_)
    (with_reducible refine w_op ?_)
    (with_reducible refine w_op ?_)
    ((with_reducible refine' w_var ?hv ?_); (case hv => exact rfl))
    (with_reducible refine w_c ?_)
    refine w_ixTs ht2 (atI_of (v := .int c) (by decide) rfl) ?_
    (with_reducible refine w_op ?_)
    (with_reducible refine w_c ?_)
    (with_reducible refine w_c ?_)
    (with_reducible refine w_p14 ?_)
    ((with_reducible refine w_I ?hc ?_); (case hc => walk_at "side"))
    (with_reducible refine w_I0 ?_)
    exact q _ H2 ⟨by omega, by omega⟩ (sm.trans sm2)
  | dsi ha hb =>
    rename_i a b c
    have hn13 : ¬ n < 13 := fun z => absurd (of.mpr z) (by show ¬ (("dsi" : Str) = "dss"); decide)
    unfold R16 at ha hb
    refine w_ixTs (sm.sqT ht) (atI_of (v := .int a) (by decide) rfl) ?_
    (with_reducible refine w_op ?_)
    (with_reducible refine w_c ?_)
    (with_reducible refine w_c ?_)
    (with_reducible refine w_p22 ?_)
    ((with_reducible refine w_I ?hc ?_); (case hc => walk_at "side"))
    (with_reducible refine w_I0 ?_)
    (with_reducible refine w_name ?_)
    (with_reducible refine w_seq ?_)
    (with_reducible refine w_ifS ?_)
    (with_reducible refine w_test ?_)
    (with_reducible refine w_op ?_)
    (with_reducible refine w_cb ?_)
    (with_reducible refine w_cons ?_)
    ((with_reducible refine' w_var ?hv ?_); (case hv => exact rfl))
    (with_reducible refine w_nil ?_)
    refine w_lenTn 4 (sm.sqT ht) rfl ?_
    (with_reducible refine w_c ?_)
    (with_reducible refine w_eqI ?_)
    (with_reducible refine w_bl ?_)
    (refine w_decF ?hd ?_; (case hd => decide))
    (with_reducible refine w_next ?_)
    (with_reducible refine w_seq ?_)
    (with_reducible refine w_ifS ?_)
    (with_reducible refine w_test ?_)
    (with_reducible refine w_op ?_)
    (with_reducible refine w_cb ?_)
    (with_reducible refine w_cons ?_)
    ((with_reducible refine' w_var ?hv ?_); (case hv => exact rfl))
    (with_reducible refine w_nil ?_)
    refine w_lenTn 4 (sm.sqT ht) rfl ?_
    (with_reducible refine w_c ?_)
    (with_reducible refine w_eqI ?_)
    (with_reducible refine w_bl ?_)
    (refine w_decF ?hd ?_; (case hd => decide))
    (with_reducible refine w_next ?_)
    (with_reducible refine w_seq ?_)
    (with_reducible refine w_ifS ?_)
    (with_reducible refine w_test ?_)
    (with_reducible refine w_op ?_)
    (with_reducible refine w_bm ?_)
    (with_reducible refine w_call ?_)
    (with_reducible refine w_nil ?_)
    refine ⟨rfl, fun p2 H2 np2 sm2 hp2 => ?_⟩
    have ht2 := (sm.trans sm2).sqT ht
    ((with_reducible refine' w_tyL ?hh ?_); (case hh => assumption))
    (with_reducible refine w_cons ?_)
    (with_reducible refine w_op ?_)
    ((with_reducible refine' w_var ?hv ?_); (case hv => exact rfl))
    (with_reducible refine w_c ?_)
    refine w_ixTs ht2 (atI_of (v := .str op) (by decide) rfl) ?_
    (with_reducible refine w_nil ?_)
    refine w_lix hp2 at1 at2 ?_
    (with_reducible refine w_c ?_)
    (with_reducible refine w_I0 ?_)
    (with_reducible refine w_bl ?_)
    refine w_decF (by omega) ?_
    (with_reducible refine w_next ?_)
    (with_reducible refine w_ret ?_)
    (with_reducible refine w_op ?_)
    (with_reducible refine w_op ?_)
    ((with_reducible refine' w_var ?hv ?_); (case hv => exact rfl))
    (with_reducible refine w_op ?_)
    (with_reducible refine w_op ?_)
    ((with_reducible refine' w_var ?hv ?_); (case hv => exact rfl))
    (with_reducible refine w_c ?_)
    refine w_ixTs ht2 (atI_of (v := .int b) (by decide) rfl) ?_
    (with_reducible refine w_op ?_)
    (with_reducible refine w_c ?_)
    (with_reducible refine w_c ?_)
    (with_reducible refine w_p18 ?_)
    ((with_reducible refine w_I ?hc ?_); (case hc => walk_at "side"))
    (with_reducible refine w_I0 ?_)
    (with_reducible refine w_op ?_)
    (with_reducible refine w_cb ?_)
    (with_reducible refine w_cons ?_)
    (with_reducible refine w_op ?_)
    ((with_reducible refine' w_var ?hv ?_); (case hv => exact rfl))
    (with_reducible refine w_c ?_)
    refine w_ixTs ht2 (atI_of (v := .int c) (by decide) rfl) ?_
    (with_reducible refine w_nil ?_)
    (with_reducible refine w_int1 ?_)
    (with_reducible refine w_op ?_)
    (with_reducible refine w_c ?_)
    (with_reducible refine w_c ?_)
    (with_reducible refine w_p14 ?_)
    ((with_reducible refine w_I ?hc ?_); (case hc => walk_at "side"))
    (with_reducible refine w_I0 ?_)
    exact q _ H2 ⟨by omega, by omega⟩ (sm.trans sm2)
  | ssi ha hb =>
    rename_i a b c
    have hn13 : ¬ n < 13 := fun z => absurd (of.mpr z) (by show ¬ (("ssi" : Str) = "dss"); decide)
    unfold R16 at ha hb
    refine w_ixTs (sm.sqT ht) (atI_of (v := .int a) (by decide) rfl) ?_
    (with_reducible refine w_op ?_)
    (with_reducible refine w_c ?_)
    (with_reducible refine w_c ?_)
    (with_reducible refine w_p22 ?_)
    ((with_reducible refine w_I ?hc ?_); (case hc => walk_at "side"))
    (with_reducible refine w_I0 ?_)
    (with_reducible refine w_name ?_)
    (with_reducible refine w_seq ?_)
    (with_reducible refine w_ifS ?_)
    (with_reducible refine w_test ?_)
    (with_reducible refine w_op ?_)
    (with_reducible refine w_cb ?_)
    (with_reducible refine w_cons ?_)
    ((with_reducible refine' w_var ?hv ?_); (case hv => exact rfl))
    (with_reducible refine w_nil ?_)
    refine w_lenTn 4 (sm.sqT ht) rfl ?_
    (with_reducible refine w_c ?_)
    (with_reducible refine w_eqI ?_)
    (with_reducible refine w_bl ?_)
    (refine w_decF ?hd ?_; (case hd => decide))
    (with_reducible refine w_next ?_)
    (with_reducible refine w_seq ?_)
    (with_reducible refine w_ifS ?_)
    (with_reducible refine w_test ?_)
    (with_reducible refine w_op ?_)
    (with_reducible refine w_cb ?_)
    (with_reducible refine w_cons ?_)
    ((with_reducible refine' w_var ?hv ?_); (case hv => exact rfl))
    (with_reducible refine w_nil ?_)
    refine w_lenTn 4 (sm.sqT ht) rfl ?_
    (with_reducible refine w_c ?_)
    (with_reducible refine w_eqI ?_)
    (with_reducible refine w_bl ?_)
    (refine w_decF ?hd ?_; (case hd => decide))
    (with_reducible refine w_next ?_)
    (with_reducible refine w_seq ?_)
    (with_reducible refine w_ifS ?_)
    (with_reducible refine w_test ?_)
    (with_reducible refine w_op ?_)
    (with_reducible refine w_bm ?_)
    (with_reducible refine w_call ?_)
    (with_reducible refine w_nil ?_)
    refine ⟨rfl, fun p2 H2 np2 sm2 hp2 => ?_⟩
    have ht2 := (sm.trans sm2).sqT ht
    ((with_reducible refine' w_tyL ?hh ?_); (case hh => assumption))
    (with_reducible refine w_cons ?_)
    (with_reducible refine w_op ?_)
    ((with_reducible refine' w_var ?hv ?_); (case hv => exact rfl))
    (with_reducible refine w_c ?_)
    refine w_ixTs ht2 (atI_of (v := .str op) (by decide) rfl) ?_
    (with_reducible refine w_nil ?_)
    refine w_lix hp2 at1 at2 ?_
    (with_reducible refine w_c ?_)
    (with_reducible refine w_I0 ?_)
    (with_reducible refine w_bl ?_)
    refine w_decF (by omega) ?_
    (with_reducible refine w_next ?_)
    (with_reducible refine w_ret ?_)
    (with_reducible refine w_op ?_)
    (with_reducible refine w_op ?_)
    ((with_reducible refine' w_var ?hv ?_); (case hv => exact rfl))
    (with_reducible refine w_op ?_)
    (with_reducible refine w_op ?_)
    ((with_reducible refine' w_var ?hv ?_); (case hv => exact rfl))
    (with_reducible refine w_c ?_)
    refine w_ixTs ht2 (atI_of (v := .int b) (by decide) rfl) ?_
    (with_reducible refine w_op ?_)
    (with_reducible refine w_c ?_)
    (with_reducible refine w_c ?_)
    (with_reducible refine w_p18 ?_)
    ((with_reducible refine w_I ?hc ?_); (case hc => walk_at "side"))
    (with_reducible refine w_I0 ?_)
    (with_reducible refine w_op ?_)
    (with_reducible refine w_cb ?_)
    (with_reducible refine w_cons ?_)
    (with_reducible refine w_op ?_)
    ((with_reducible refine' w_var ?hv ?_); (case hv => exact rfl))
    (with_reducible refine w_c ?_)
    refine w_ixTs ht2 (atI_of (v := .int c) (by decide) rfl) ?_
    (with_reducible refine w_nil ?_)
    (with_reducible refine w_int1 ?_)
    (with_reducible refine w_op ?_)
    (with_reducible refine w_c ?_)
    (with_reducible refine w_c ?_)
    (with_reducible refine w_p14 ?_)
    ((with_reducible refine w_I ?hc ?_); (case hc => walk_at "side"))
    (with_reducible refine w_I0 ?_)
    exact q _ H2 ⟨by omega, by omega⟩ (sm.trans sm2)
  | du ha =>
    rename_i a c
    unfold R16 at ha
    refine w_ixTs (sm.sqT ht) (atI_of (v := .int a) (by decide) rfl) ?_
    (with_reducible refine w_op ?_)
    (with_reducible refine w_c ?_)
    (with_reducible refine w_c ?_)
    (with_reducible refine w_p22 ?_)
    ((with_reducible refine w_I ?hc ?_); (case hc => walk_at "side"))
    (with_reducible refine w_I0 ?_)
    (with_reducible refine w_name ?_)
    (with_reducible refine w_seq ?_)
    (with_reducible refine w_ifS ?_)
    (with_reducible refine w_test ?_)
    (with_reducible refine w_op ?_)
    (with_reducible refine w_cb ?_)
    (with_reducible refine w_cons ?_)
    ((with_reducible refine' w_var ?hv ?_); (case hv => exact rfl))
    (with_reducible refine w_nil ?_)
    refine w_lenTn 3 (sm.sqT ht) rfl ?_
    (with_reducible refine w_c ?_)
    (with_reducible refine w_eqI ?_)
    (with_reducible refine w_bl ?_)
    (refine w_decF ?hd ?_; (case hd => decide))
    (with_reducible refine w_next ?_)
    (with_reducible refine w_seq ?_)
    (with_reducible refine w_ifS ?_)
    (with_reducible refine w_test ?_)
    (with_reducible refine w_op ?_)
    (with_reducible refine w_cb ?_)
    (with_reducible refine w_cons ?_)
    ((with_reducible refine' w_var ?hv ?_); (case hv => exact rfl))
    (with_reducible refine w_nil ?_)
    refine w_lenTn 3 (sm.sqT ht) rfl ?_
    (with_reducible refine w_c ?_)
    (with_reducible refine w_eqI ?_)
    (with_reducible refine w_bl ?_)
    (refine w_decT ?hd ?_; (case hd => decide))
    (with_reducible refine w_ret ?_)
    (with_reducible refine w_op ?_)
    ((with_reducible refine' w_var ?hv ?_); (case hv => exact rfl))
    (with_reducible refine w_op ?_)
    (with_reducible refine w_cb ?_)
    (with_reducible refine w_cons ?_)
    (with_reducible refine w_op ?_)
    ((with_reducible refine' w_var ?hv ?_); (case hv => exact rfl))
    (with_reducible refine w_c ?_)
    refine w_ixTs (sm.sqT ht) (atI_of (v := .int c) (by decide) rfl) ?_
    (with_reducible refine w_nil ?_)
    (with_reducible refine w_int1 ?_)
    (with_reducible refine w_op ?_)
    (with_reducible refine w_c ?_)
    (with_reducible refine w_c ?_)
    (with_reducible refine w_p18 ?_)
    ((with_reducible refine w_I ?hc ?_); (case hc => walk_at "side"))
    (with_reducible refine w_I0 ?_)
    exact q _ H1 ⟨by omega, by omega⟩ sm
  | dj ha =>
    rename_i a c
    unfold R16 at ha
    refine w_ixTs (sm.sqT ht) (atI_of (v := .int a) (by decide) rfl) ?_
    (with_reducible refine w_op ?_)
    (with_reducible refine w_c ?_)
    (with_reducible refine w_c ?_)
    (with_reducible refine w_p22 ?_)
    ((with_reducible refine w_I ?hc ?_); (case hc => walk_at "side"))
    (with_reducible refine w_I0 ?_)
    (with_reducible refine w_name ?_)
    (with_reducible refine w_seq ?_)
    (with_reducible refine w_ifS ?_)
    (with_reducible refine w_test ?_)
    (with_reducible refine w_op ?_)
    (with_reducible refine w_cb ?_)
    (with_reducible refine w_cons ?_)
    ((with_reducible refine' w_var ?hv ?_); (case hv => exact rfl))
    (with_reducible refine w_nil ?_)
    refine w_lenTn 3 (sm.sqT ht) rfl ?_
    (with_reducible refine w_c ?_)
    (with_reducible refine w_eqI ?_)
    (with_reducible refine w_bl ?_)
    (refine w_decF ?hd ?_; (case hd => decide))
    (with_reducible refine w_next ?_)
    (with_reducible refine w_seq ?_)
    (with_reducible refine w_ifS ?_)
    (with_reducible refine w_test ?_)
    (with_reducible refine w_op ?_)
    (with_reducible refine w_cb ?_)
    (with_reducible refine w_cons ?_)
    ((with_reducible refine' w_var ?hv ?_); (case hv => exact rfl))
    (with_reducible refine w_nil ?_)
    refine w_lenTn 3 (sm.sqT ht) rfl ?_
    (with_reducible refine w_c ?_)
    (with_reducible refine w_eqI ?_)
    (with_reducible refine w_bl ?_)
    (refine w_decT ?hd ?_; (case hd => decide))
    (with_reducible refine w_ret ?_)
    (with_reducible refine w_op ?_)
    ((with_reducible refine' w_var ?hv ?_); (case hv => exact rfl))
    (with_reducible refine w_op ?_)
    (with_reducible refine w_cb ?_)
    (with_reducible refine w_cons ?_)
    (with_reducible refine w_op ?_)
    ((with_reducible refine' w_var ?hv ?_); (case hv => exact rfl))
    (with_reducible refine w_c ?_)
    refine w_ixTs (sm.sqT ht) (atI_of (v := .int c) (by decide) rfl) ?_
    (with_reducible refine w_nil ?_)
    (with_reducible refine w_int1 ?_)
    (with_reducible refine w_op ?_)
    (with_reducible refine w_c ?_)
    (with_reducible refine w_c ?_)
    (with_reducible refine w_p18 ?_)
    ((with_reducible refine w_I ?hc ?_); (case hc => walk_at "side"))
    (with_reducible refine w_I0 ?_)
    exact q _ H1 ⟨by omega, by omega⟩ sm
  | d ha =>
    rename_i a
    unfold R16 at ha
    refine w_ixTs (sm.sqT ht) (atI_of (v := .int a) (by decide) rfl) ?_
    (with_reducible refine w_op ?_)
    (with_reducible refine w_c ?_)
    (with_reducible refine w_c ?_)
    (with_reducible refine w_p22 ?_)
    ((with_reducible refine w_I ?hc ?_); (case hc => walk_at "side"))
    (with_reducible refine w_I0 ?_)
    (with_reducible refine w_name ?_)
    (with_reducible refine w_seq ?_)
    (with_reducible refine w_ifS ?_)
    (with_reducible refine w_test ?_)
    (with_reducible refine w_op ?_)
    (with_reducible refine w_cb ?_)
    (with_reducible refine w_cons ?_)
    ((with_reducible refine' w_var ?hv ?_); (case hv => exact rfl))
    (with_reducible refine w_nil ?_)
    refine w_lenTn 2 (sm.sqT ht) rfl ?_
    (with_reducible refine w_c ?_)
    (with_reducible refine w_eqI ?_)
    (with_reducible refine w_bl ?_)
    (refine w_decT ?hd ?_; (case hd => decide))
    (with_reducible refine w_ret ?_)
    ((with_reducible refine' w_var ?hv ?_); (case hv => exact rfl))
    exact q _ H1 ⟨by omega, by omega⟩ sm
  | s ha =>
    rename_i a
    unfold R16 at ha
    refine w_ixTs (sm.sqT ht) (atI_of (v := .int a) (by decide) rfl) ?_
    (with_reducible refine w_op ?_)
    (with_reducible refine w_c ?_)
    (with_reducible refine w_c ?_)
    (with_reducible refine w_p22 ?_)
    ((with_reducible refine w_I ?hc ?_); (case hc => walk_at "side"))
    (with_reducible refine w_I0 ?_)
    (with_reducible refine w_name ?_)
    (with_reducible refine w_seq ?_)
    (with_reducible refine w_ifS ?_)
    (with_reducible refine w_test ?_)
    (with_reducible refine w_op ?_)
    (with_reducible refine w_cb ?_)
    (with_reducible refine w_cons ?_)
    ((with_reducible refine' w_var ?hv ?_); (case hv => exact rfl))
    (with_reducible refine w_nil ?_)
    refine w_lenTn 2 (sm.sqT ht) rfl ?_
    (with_reducible refine w_c ?_)
    (with_reducible refine w_eqI ?_)
    (with_reducible refine w_bl ?_)
    (refine w_decT ?hd ?_; (case hd => decide))
    (with_reducible refine w_ret ?_)
    ((with_reducible refine' w_var ?hv ?_); (case hv => exact rfl))
    exact q _ H1 ⟨by omega, by omega⟩ sm
def spValues : Sp := fun vs H Q _ => ∃ (l : Addr) (ws : List Int), vs = [.ref l] ∧ H l = some (.lst (ws.map V.int)) ∧ ws.length ≤ 20000 ∧ (∀ x ∈ ws, W32 x) ∧ ∀ (bs : List Int) p H', bs.length = 4 * ws.length → (∀ b ∈ bs, B8 b) → H p = none → Same H H' → H' p = some (.tup (bs.map V.int)) → Q (.ref p) H'
theorem w_cat' {l b : Addr} {xs zs : List Int} {H : Hp} {Q : VK} (h1 : H l = some (.lst (xs.map V.int))) (h2 : H b = some (.lst (zs.map V.int))) (hl : xs.length + zs.length ≤ 100000) (q : ∀ p H', H p = none → Same H H' → H' p = some (.lst ((xs ++ zs).map V.int)) → Q (.ref p) H') : rCat (.ref l) (.ref b) H Q :=
  w_cat h1 h2 (by rw [List.length_map, List.length_map]; exact Nat.le_trans hl (by decide)) fun p H' np s e => q p H' np s (by rw [List.map_append]; exact e)
theorem ok_law_values (b_tuple : mg "tuple" = none) (c_law_bytes : Cd P w K mg base 1 "_law_bytes" spBytes) (Z : St1 K mg "_law_values" s_law_values ["words"]) : Cd P w K mg base 2 "_law_values" spValues := by
  refine Z.cd sc_law_values (fun vs H Q E h => by obtain ⟨l, ws, rfl, _⟩ := h; rfl) (fun f cdv A outer s H vs Q E hr h => ?_)
  obtain ⟨l, ws, rfl, hl, hn, hw, q⟩ := h
  refine ⟨_, (pss_cons (ps_set (i := 1) sc_law_values.nd rfl (.inl rfl) (pe_lst pa_nil))
      (pss_cons (ps_for PassesOwn.never rfl (pi_list (pv 0)) (pg_name (i := 2) sc_law_values.nd rfl (.inl rfl))
      (pss_one (ps_set (i := 1) sc_law_values.nd rfl (.inl rfl) (pe_op op_cat (pv 1) (pe_cd c_law_bytes hr (by first | decide | omega) (by rfl) (pa_cons (pv 2) pa_nil))))))
      (pss_one (ps_ret (pe_callTy call_tupQ (by rfl) b_tuple (by decide +kernel) (pa_cons (pv 1) pa_nil)))))), ?_⟩
  (with_reducible refine w_seq ?_)
  (with_reducible refine w_asg ?_)
  (with_reducible refine w_lst ?_)
  (with_reducible refine w_nil ?_)
  refine w_kLst (by show 0 ≤ sizeLine; decide) fun g H1 ng s1 hg => ?_
  (with_reducible refine w_name ?_)
  (with_reducible refine w_seq ?_)
  (with_reducible refine w_for ?_)
  (with_reducible refine w_iL ?_)
  ((with_reducible refine' w_var ?hv ?_); (case hv => exact rfl))
  refine w_forL (ws.map V.int) (fun i σ H' => ∃ (bs : List Int) (g : Addr) (a : Option V), Same H H' ∧ bs.length = 4 * i ∧ (∀ b ∈ bs, B8 b) ∧ H' g = some (.lst (bs.map V.int)) ∧ σ = [some (.ref l), some (.ref g), a]) (.of (s1 _ _ hl)) ⟨[], g, _, s1, rfl, (fun _ h => by cases h), hg, rfl⟩ (fun i σ H2 hi h => by obtain ⟨bs, g, a, sm, _⟩ := h; exact .of (sm _ _ hl)) (fun i x σ H2 hx h => ?_) (fun σ H2 h => ?_)
  · obtain ⟨bs, g, a, sm, hl2, hb2, hg, rfl⟩ := h
    obtain ⟨y, hy, iy, rfl⟩ := map_get' hx
    have hi : i < ws.length := (List.getElem?_eq_some_iff.mp iy).1
    (with_reducible refine w_name ?_)
    (with_reducible refine w_asg ?_)
    (with_reducible refine w_op ?_)
    ((with_reducible refine' w_var ?hv ?_); (case hv => exact rfl))
    (with_reducible refine w_call ?_)
    (with_reducible refine w_cons ?_)
    ((with_reducible refine' w_var ?hv ?_); (case hv => exact rfl))
    (with_reducible refine w_nil ?_)
    refine ⟨y, rfl, hw y hy, fun bs2 p3 H3 l3 hb3 np s3 hp3 => ?_⟩
    skip
    refine w_cat' (s3 _ _ hg) hp3 (by omega) fun g2 H4 ng2 s4 hg2 => ?_
    (with_reducible refine w_name ?_)
    refine ⟨bs ++ bs2, g2, _, sm.trans (s3.trans s4), by rw [List.length_append]; omega, fun b hb => ?_, hg2, rfl⟩
    rcases List.mem_append.mp hb with hb | hb
    · exact hb2 b hb
    · exact hb3 b hb
  · obtain ⟨bs, g, a, sm, hl2, hb2, hg, rfl⟩ := h
    (with_reducible refine w_ret ?_)
    (with_reducible refine w_cb ?_)
    (with_reducible refine w_cons ?_)
    ((with_reducible refine' w_var ?hv ?_); (case hv => exact rfl))
    (with_reducible refine w_nil ?_)
    refine w_tupL (.of hg) fun t H3 nt s3 ht => ?_
    exact q bs t H3 (by rw [hl2, List.length_map]) hb2 (fresh sm nt) (sm.trans s3) ht
end
end K06

namespace K06
local macro_rules | `(tactic| walk_at "w1") => `(tactic| first
  | (with_reducible refine w_dget ?_)
  | (with_reducible refine w_dput ?_))
theorem sc_law_code_words : FnScope ["p", "words", "k", "row", "last"] ["p"] (defScope s_law_code_words) := ⟨rfl, rfl, rfl, by decide +kernel, rfl, by decide +kernel, by decide +kernel⟩
theorem atI_last (l : List V) (v : V) : atI (l ++ [v]) (((l ++ [v]).length : Nat) - 1 : Int) = some v := by
  rw [show (((l ++ [v]).length : Nat) - 1 : Int) = (l.length : Nat) by rw [List.length_append]; simp]
  exact atI_nat (by simp)
theorem w_catA {K : PySem.W.Frag} {a b : Addr} {xs ys : List V} {H : Hp} {Q : VK} (h1 : SqT K H a xs) (h2 : SqT K H b ys) (hl : xs.length + ys.length ≤ sizeLine) (n1 : xs ≠ []) (n2 : ys ≠ []) (q : ∀ p H', H p = none → Same H H' → H' p = some (.tup (xs ++ ys)) → Q (.ref p) H') : rCatA K (.ref a) (.ref b) H Q :=
  ⟨a, b, xs, ys, rfl, rfl, h1, h2, hl, fun e => absurd e n1, fun _ e => absurd e n2, fun _ _ p np => q p _ np (Same.new np) upd_same⟩
theorem w_rSlI {K : PySem.W.Frag} {H : Hp} {Q : VK} {a : Addr} {v : V} {l : List V} (h : SqT K H a (l ++ [v])) (q : ∀ p H', H p = none → Same H H' → H' p = some (.tup l) → Q (.ref p) H') : rSlA K (.ref a) none (some (((l ++ [v]).length : Nat) - 1 : Int)) H Q := by
  rw [show (((l ++ [v]).length : Nat) - 1 : Int) = (l.length : Nat) by rw [List.length_append]; simp]
  have e2 : HT.sIx (l ++ [v]).length (l ++ [v]).length (some (l.length : Nat)) = l.length := by rw [HT.sIx_nat]; simp
  refine ⟨a, _, rfl, h, fun ⟨_, e⟩ => ?_, fun _ p np => ?_⟩
  · rw [e2, List.length_append] at e
    simp at e
  · refine q p _ np (Same.new np) ?_
    have e : cutV (l ++ [v]) none (some (l.length : Nat)) = l := by
      unfold cutV
      rw [e2, HT.sIx_none]
      simp
    rw [e]; exact upd_same
theorem w_isiIT {K : PySem.W.Frag} {i : Int} {H : Hp} {Q : VK} (q : Q (.bl false) H) : rIsi K [.int i, .ty "tuple"] H Q := ⟨.int i, .ty "tuple", .type "int", .type "tuple", false, rfl, .ty _, .base (.int _), kit_ty (by decide +kernel), q⟩
theorem w_isiTT {K : PySem.W.Frag} {t : Addr} {xs : List V} {H : Hp} {Q : VK} (h : H t = some (.tup xs)) (q : Q (.bl true) H) : rIsi K [.ref t, .ty "tuple"] H Q := ⟨.ref t, .ty "tuple", .type "tuple", .type "tuple", true, rfl, .ty _, .base (.tup h), kit_ty (by decide +kernel), q⟩
theorem insV_snoc (op : Str) (ys : List Int) (z : Int) : insV op (ys ++ [z]) = insV op ys ++ [.int z] := by unfold insV; rw [List.map_append]; rfl
theorem RFits.snoc {fm : Str} {xs : List Int} (h : RFits fm xs) : ∃ ys z, xs = ys ++ [z] := by
  cases h with
  | dss => exact ⟨[_, _], _, rfl⟩
  | dsi => exact ⟨[_, _], _, rfl⟩
  | ssi => exact ⟨[_, _], _, rfl⟩
  | du => exact ⟨[_], _, rfl⟩
  | dj => exact ⟨[_], _, rfl⟩
  | d => exact ⟨[], _, rfl⟩
  | s => exact ⟨[], _, rfl⟩
theorem RFits.len {fm : Str} {xs : List Int} (h : RFits fm xs) : xs.length ≤ 3 := by cases h <;> simp
section
variable {P : Program} {w : World} {K : PySem.W.Frag} {mg : Str → Option Value} {base : Heap}
def spCW : Sp := fun vs H Q _ => ∃ (p : Addr) (S : PS), vs = [.ref p] ∧ PAt H p S ∧ S.code.length ≤ 100000 ∧ ∀ (ws : List Int) l H', ws.length = S.code.length → (∀ x ∈ ws, W32 x) → H l = none → Same H H' → H' l = some (.lst (ws.map V.int)) → Q (.ref l) H'
theorem ok_law_code_words (b_len : mg "len" = none) (b_range : mg "range" = none) (b_isinstance : mg "isinstance" = none) (b_tuple : mg "tuple" = none) (c_law_word : Cd P w K mg base 2 "_law_word" (spWordR K)) (Z : St1 K mg "_law_code_words" s_law_code_words ["p"]) : Cd P w K mg base 3 "_law_code_words" spCW := by
  refine Z.cd sc_law_code_words (fun vs H Q E h => by obtain ⟨p, S, rfl, _⟩ := h; rfl) (fun f cdv A outer s H vs Q E hr h => ?_)
  obtain ⟨p, S, rfl, hP, hl, q⟩ := h
  have hu := hu_of hr
  refine ⟨_, (pss_cons (ps_set (i := 1) sc_law_code_words.nd rfl (.inl rfl) (pe_lst pa_nil))
      (pss_cons (ps_for PassesOwn.never rfl (pi_range1 (by rfl) b_range (pa_cons (pe_callB call_lenQ (by rfl) b_len PySem.boot_len (pa_cons (pe_dget hu (pv 0) pe_str (fun _ _ => rfl)) pa_nil)) pa_nil)) (pg_name (i := 2) sc_law_code_words.nd rfl (.inl rfl))
      (pss_cons (ps_set (i := 3) sc_law_code_words.nd rfl (.inl rfl) (pe_ix ix_list (pe_dget hu (pv 0) pe_str (fun _ _ => rfl)) (pv 2) (fun _ _ => rfl)))
      (pss_one (ps_if (pt_cmpR op_eq (pe_ix ix_tup (pv 3) pe_int (fun _ _ => rfl)) pe_str (nomark _)) (pss_one (ps_expr (pe_bm PySem.F.plainAttrs_list PySem.F.slot_list_append PySem.F.type_list_append mt_append (pv 1) (pa_cons (pe_ix ix_tup (pv 3) pe_int (fun _ _ => rfl)) pa_nil)))) (pss_cons (ps_set (i := 4) sc_law_code_words.nd rfl (.inl rfl) (pe_ix ix_tup (pv 3) (pe_op op_sub (pe_callB call_lenQ (by rfl) b_len PySem.boot_len (pa_cons (pv 3) pa_nil)) pe_int) (fun _ _ => rfl)))
      (Evl.pss_cut (ps_if (pt_val (pe_callB call_isi (by rfl) b_isinstance (by decide +kernel) (pa_cons (pv 4) (pa_cons (pe_bltn (v := .ty "tuple") (by rfl) b_tuple (by decide +kernel) rfl) pa_nil)))) (pss_one (ps_set (i := 3) sc_law_code_words.nd rfl (.inl rfl) (pe_op op_catA (pe_slice sl_tupA (pv 3) po_none (po_some (pe_op op_sub (pe_callB call_lenQ (by rfl) b_len PySem.boot_len (pa_cons (pv 3) pa_nil)) pe_int))) (pe_tup (pa_cons (pe_op op_sub (pe_ix ix_list (pe_dget hu (pv 0) pe_str (fun _ _ => rfl)) (pe_ix ix_tup (pv 4) pe_int (fun _ _ => rfl)) (fun _ _ => rfl)) (pv 2)) pa_nil))))) pss_nil)
      (pss_one (ps_expr (pe_bm PySem.F.plainAttrs_list PySem.F.slot_list_append PySem.F.type_list_append mt_append (pv 1) (pa_cons (pe_cd c_law_word hr (by first | decide | omega) (by rfl) (pa_cons (pv 3) pa_nil)) pa_nil))))))))))
      (pss_one (ps_ret (pv 1))))), ?_⟩
  (with_reducible refine w_seq ?_)
  (with_reducible refine w_asg ?_)
  (with_reducible refine w_lst ?_)
  (with_reducible refine w_nil ?_)
  refine w_kLst (by show 0 ≤ sizeLine; decide) fun g H1 ng s1 hg => ?_
  (with_reducible refine w_name ?_)
  (with_reducible refine w_seq ?_)
  (with_reducible refine w_for ?_)
  (with_reducible refine w_rng1 ?_)
  (with_reducible refine w_cons ?_)
  (with_reducible refine w_cb ?_)
  (with_reducible refine w_cons ?_)
  (with_reducible refine w_dget ?_)
  ((with_reducible refine' w_var ?hv ?_); (case hv => exact rfl))
  (with_reducible refine w_c ?_)
  refine w_kDG (s1 _ _ hP.hp) rfl ?_
  have hc1 := s1 _ _ hP.hc
  (with_reducible refine w_nil ?_)
  ((with_reducible refine' w_lenL ?hh ?_); (case hh => assumption))
  (with_reducible refine w_nil ?_)
  refine w_forR S.code.length (fun i σ H' => ∃ (ws : List Int) (a b c : Option V), Same H H' ∧ ws.length = i ∧ (∀ x ∈ ws, W32 x) ∧ H' g = some (.lst (ws.map V.int)) ∧ σ = [some (.ref p), some (.ref g), a, b, c]) (by simp) (by omega) ⟨[], _, _, _, s1, rfl, (fun _ h => by cases h), hg, rfl⟩ (fun i σ H2 hi h => ?_) (fun σ H2 h => ?_)
  · obtain ⟨ws, a, b, c, sm, hlen, hw, hg2, rfl⟩ := h
    have hP2 := hP.same sm
    (with_reducible refine w_name ?_)
    (with_reducible refine w_seq ?_)
    (with_reducible refine w_asg ?_)
    (with_reducible refine w_op ?_)
    (with_reducible refine w_dget ?_)
    ((with_reducible refine' w_var ?hv ?_); (case hv => exact rfl))
    (with_reducible refine w_c ?_)
    refine w_kDG hP2.hp rfl ?_
    ((with_reducible refine' w_var ?hv ?_); (case hv => exact rfl))
    have hr := hP2.rows _ (List.getElem_mem hi)
    refine w_ixL hP2.hc (atI_nat (List.getElem?_eq_getElem hi)) ?_
    obtain ⟨t, et, hr⟩ := hr
    rw [et]
    (with_reducible refine w_name ?_)
    (with_reducible refine w_ifS ?_)
    (with_reducible refine w_test ?_)
    (with_reducible refine w_op ?_)
    (with_reducible refine w_op ?_)
    ((with_reducible refine' w_var ?hv ?_); (case hv => exact rfl))
    (with_reducible refine w_c ?_)
    have fin : ∀ (x : Int) H3 a b c, W32 x → Same H2 H3 → ∀ σ, σ = [some (.ref p), some (.ref g), a, b, c] → ∀ H4, H4 g = some (.lst (ws.map V.int ++ [V.int x])) → But g H3 H4 → ∃ (ws : List Int) (a b c : Option V), Same H H4 ∧ ws.length = i + 1 ∧ (∀ x ∈ ws, W32 x) ∧ H4 g = some (.lst (ws.map V.int)) ∧ σ = [some (.ref p), some (.ref g), a, b, c] := by
      intro x H3 a b c hx s3 σ e H4 h4 b4
      refine ⟨ws ++ [x], a, b, c, fun y o hy => b4 y o (ne_of_none hy ng) (s3 _ _ (sm _ _ hy)), by rw [List.length_append, hlen]; rfl, fun y hy => ?_, by rw [List.map_append]; exact h4, e⟩
      rcases List.mem_append.mp hy with hy | hy
      · exact hw y hy
      · rw [List.mem_singleton.mp hy]; exact hx
    have hsz : (ws.map V.int).length < sizeLine := by rw [List.length_map, hlen]; exact Nat.lt_of_le_of_lt (show i ≤ 100000 by omega) (by decide)
    rcases hr with ⟨n, op, fm, xs, h1, h2, h3⟩ | ⟨n, op, fm, xs, t2, lb, h1, h2, h3, h4, h5, h6⟩ | ⟨x, h1, h2, h3⟩
    · obtain ⟨ys, z, rfl⟩ := h2.snoc
      have hn : n < 38 := (List.getElem?_eq_some_iff.mp h1).1
      skip
      refine w_ixT h3 (atI_of (v := .str op) (by decide) rfl) ?_
      (with_reducible refine w_c ?_)
      (with_reducible refine w_eqS ?_)
      (with_reducible refine w_bl ?_)
      refine w_decF (op_dss n hn _ h1).2 ?_
      (with_reducible refine w_seq ?_)
      (with_reducible refine w_asg ?_)
      (with_reducible refine w_op ?_)
      ((with_reducible refine' w_var ?hv ?_); (case hv => exact rfl))
      (with_reducible refine w_op ?_)
      (with_reducible refine w_cb ?_)
      (with_reducible refine w_cons ?_)
      ((with_reducible refine' w_var ?hv ?_); (case hv => exact rfl))
      (with_reducible refine w_nil ?_)
      refine w_lenT h3 ?_
      (with_reducible refine w_c ?_)
      (with_reducible refine w_I0 ?_)
      refine w_ixT h3 (by rw [insV_snoc]; exact atI_last _ _) ?_
      (with_reducible refine w_name ?_)
      refine Evl.q_cut (M := fun σ' H' => ∃ (t' : Addr) (xs' : List Int), Same H2 H' ∧ SqT K H' t' (insV op xs') ∧ RFits fm xs' ∧ σ' = [some (.ref p), some (.ref g), some (.int (i : Nat)), some (.ref t'), some (.int z)]) ?_ ?_
      · (with_reducible refine w_ifS ?_)
        (with_reducible refine w_B ?_)
        (with_reducible refine w_cb ?_)
        (with_reducible refine w_cons ?_)
        ((with_reducible refine' w_var ?hv ?_); (case hv => exact rfl))
        (with_reducible refine w_cons ?_)
        (with_reducible refine w_c ?_)
        (with_reducible refine w_nil ?_)
        refine w_isiIT ?_
        (with_reducible refine w_bl ?_)
        (with_reducible refine w_itF ?_)
        (with_reducible refine w_next ?_)
        exact ⟨t, ys ++ [z], (fun _ _ e => e), .inl (.inl h3), h2, rfl⟩
      · rintro σ' H3 ⟨t', xs', s3, sq, hf, rfl⟩
        (with_reducible refine w_drop ?_)
        (with_reducible refine w_bm ?_)
        ((with_reducible refine' w_var ?hv ?_); (case hv => exact rfl))
        refine w_tyL (s3 _ _ hg2) ?_
        (with_reducible refine w_cons ?_)
        (with_reducible refine w_call ?_)
        (with_reducible refine w_cons ?_)
        ((with_reducible refine' w_var ?hv ?_); (case hv => exact rfl))
        (with_reducible refine w_nil ?_)
        refine ⟨t', n, op, fm, xs', rfl, sq, h1, hf, fun x H4 hx s4 => ?_⟩
        (with_reducible refine w_nil ?_)
        refine w_append (s4 _ _ (s3 _ _ hg2)) hsz fun H5 hg5 b5 => ?_
        skip
        exact fin x H4 _ _ _ hx (s3.trans s4) _ rfl H5 hg5 b5
    · have hn : n < 38 := (List.getElem?_eq_some_iff.mp h1).1
      skip
      refine w_ixT h3 (atI_of (v := .str op) (by decide) rfl) ?_
      (with_reducible refine w_c ?_)
      (with_reducible refine w_eqS ?_)
      (with_reducible refine w_bl ?_)
      refine w_decF (op_dss n hn _ h1).2 ?_
      (with_reducible refine w_seq ?_)
      (with_reducible refine w_asg ?_)
      (with_reducible refine w_op ?_)
      ((with_reducible refine' w_var ?hv ?_); (case hv => exact rfl))
      (with_reducible refine w_op ?_)
      (with_reducible refine w_cb ?_)
      (with_reducible refine w_cons ?_)
      ((with_reducible refine' w_var ?hv ?_); (case hv => exact rfl))
      (with_reducible refine w_nil ?_)
      refine w_lenT h3 ?_
      (with_reducible refine w_c ?_)
      (with_reducible refine w_I0 ?_)
      refine w_ixT h3 (atI_last _ _) ?_
      (with_reducible refine w_name ?_)
      refine Evl.q_cut (M := fun σ' H' => ∃ (t' : Addr) (xs' : List Int), Same H2 H' ∧ SqT K H' t' (insV op xs') ∧ RFits fm xs' ∧ σ' = [some (.ref p), some (.ref g), some (.int (i : Nat)), some (.ref t'), some (.ref t2)]) ?_ ?_
      · (with_reducible refine w_ifS ?_)
        (with_reducible refine w_B ?_)
        (with_reducible refine w_cb ?_)
        (with_reducible refine w_cons ?_)
        ((with_reducible refine' w_var ?hv ?_); (case hv => exact rfl))
        (with_reducible refine w_cons ?_)
        (with_reducible refine w_c ?_)
        (with_reducible refine w_nil ?_)
        refine w_isiTT h4 ?_
        (with_reducible refine w_bl ?_)
        (with_reducible refine w_itT ?_)
        (with_reducible refine w_asg ?_)
        (with_reducible refine w_op ?_)
        (with_reducible refine w_sl ?_)
        ((with_reducible refine' w_var ?hv ?_); (case hv => exact rfl))
        (with_reducible refine w_noPart ?_)
        (with_reducible refine w_part ?_)
        (with_reducible refine w_op ?_)
        (with_reducible refine w_cb ?_)
        (with_reducible refine w_cons ?_)
        ((with_reducible refine' w_var ?hv ?_); (case hv => exact rfl))
        (with_reducible refine w_nil ?_)
        refine w_lenT h3 ?_
        (with_reducible refine w_c ?_)
        (with_reducible refine w_I0 ?_)
        (with_reducible refine w_exI ?_)
        refine w_rSlI (.inl (.inl h3)) fun u H3 nu s3 hu3 => ?_
        (with_reducible refine w_tup ?_)
        (with_reducible refine w_cons ?_)
        (with_reducible refine w_op ?_)
        (with_reducible refine w_op ?_)
        (with_reducible refine w_dget ?_)
        ((with_reducible refine' w_var ?hv ?_); (case hv => exact rfl))
        (with_reducible refine w_c ?_)
        refine w_kDG (s3 _ _ hP2.hp) rfl ?_
        (with_reducible refine w_op ?_)
        ((with_reducible refine' w_var ?hv ?_); (case hv => exact rfl))
        (with_reducible refine w_c ?_)
        have h4' := s3 _ _ h4
        ((with_reducible refine' w_ixT ?hh ?ha ?_); (case hh => assumption); (case ha => exact rfl))
        obtain ⟨m, rfl⟩ := Int.eq_ofNat_of_zero_le h5
        have hm : m < S.at_.length := by omega
        refine w_ixL (s3 _ _ hP2.ha) (atI_nat (v := .int S.at_[m]) (by rw [List.getElem?_map, List.getElem?_eq_getElem hm]; rfl)) ?_
        ((with_reducible refine' w_var ?hv ?_); (case hv => exact rfl))
        (with_reducible refine w_I0 ?_)
        (with_reducible refine w_nil ?_)
        refine w_kTup (by show 1 ≤ sizeLine; decide) fun u2 H4 nu2 s4 hu4 => ?_
        refine w_catA (.inl (.inl (s4 _ _ hu3))) (.inl (.inl hu4)) (Nat.le_trans (show (insV op xs).length + 1 ≤ 100 by have := (h2 0).len; rw [List.length_append] at this; unfold insV; rw [List.length_cons, List.length_map]; simp only [List.length_cons, List.length_nil] at this; omega) (by decide)) (by unfold insV; simp) (by simp) fun u3 H5 nu3 s5 hu5 => ?_
        (with_reducible refine w_name ?_)
        exact ⟨u3, xs ++ [S.at_[m] - (i : Nat)], s3.trans (s4.trans s5), .inl (.inl (by rw [insV_snoc]; exact hu5)), h2 _, rfl⟩
      · rintro σ' H3 ⟨t', xs', s3, sq, hf, rfl⟩
        (with_reducible refine w_drop ?_)
        (with_reducible refine w_bm ?_)
        ((with_reducible refine' w_var ?hv ?_); (case hv => exact rfl))
        refine w_tyL (s3 _ _ hg2) ?_
        (with_reducible refine w_cons ?_)
        (with_reducible refine w_call ?_)
        (with_reducible refine w_cons ?_)
        ((with_reducible refine' w_var ?hv ?_); (case hv => exact rfl))
        (with_reducible refine w_nil ?_)
        refine ⟨t', n, op, fm, xs', rfl, sq, h1, hf, fun x H4 hx s4 => ?_⟩
        (with_reducible refine w_nil ?_)
        refine w_append (s4 _ _ (s3 _ _ hg2)) hsz fun H5 hg5 b5 => ?_
        skip
        exact fin x H4 _ _ _ hx (s3.trans s4) _ rfl H5 hg5 b5
    · ((with_reducible refine' w_ixT ?hh ?ha ?_); (case hh => assumption); (case ha => exact rfl))
      (with_reducible refine w_c ?_)
      (with_reducible refine w_eqS ?_)
      (with_reducible refine w_bl ?_)
      refine w_decT rfl ?_
      (with_reducible refine w_drop ?_)
      (with_reducible refine w_bm ?_)
      ((with_reducible refine' w_var ?hv ?_); (case hv => exact rfl))
      ((with_reducible refine' w_tyL ?hh ?_); (case hh => assumption))
      (with_reducible refine w_cons ?_)
      (with_reducible refine w_op ?_)
      ((with_reducible refine' w_var ?hv ?_); (case hv => exact rfl))
      (with_reducible refine w_c ?_)
      ((with_reducible refine' w_ixT ?hh ?ha ?_); (case hh => assumption); (case ha => exact rfl))
      (with_reducible refine w_nil ?_)
      refine w_append hg2 hsz fun H3 hg3 b3 => ?_
      skip
      exact fin x H2 _ _ _ ⟨h1, h2⟩ (fun _ _ e => e) _ rfl H3 hg3 b3
  · obtain ⟨ws, a, b, c, sm, hlen, hw, hg2, rfl⟩ := h
    (with_reducible refine w_ret ?_)
    ((with_reducible refine' w_var ?hv ?_); (case hv => exact rfl))
    exact q ws g H2 hlen hw ng sm hg2
end
end K06

namespace K06
local macro_rules | `(tactic| walk_at "w1") => `(tactic| first
  | (with_reducible refine w_dget ?_)
  | (with_reducible refine w_dput ?_))
theorem sc_law_image : FnScope ["draw", "left", "base", "p", "functions", "k", "words", "table", "data", "segments", "symbols", "label"] ["draw", "left"] (defScope s_law_image) := ⟨rfl, rfl, rfl, by decide +kernel, rfl, by decide +kernel, by decide +kernel⟩
def kDsp (p : Addr) (Q : VK) : List (V × V) → Hp → Prop := fun ps H2 => H2 p = some (.dK []) ∧ ∃ kvs : List (Key × V), ps = kvs.map (fun kv => (kV kv.1, kv.2)) ∧ kvs.length ≤ 15 ∧ Q (.ref p) (upd H2 p (.dK (mergeK [] kvs)))
theorem w_disp {trs : List (TE × TE)} {σ : L2.St} {H : Hp} {Q : VK} (q : ∀ p, H p = none → tPairs trs σ (upd H p (.dK [])) (kDsp p Q)) : tDisp trs σ H Q := q
theorem w_pN {σ : L2.St} {H : Hp} {Q : List (V × V) → Hp → Prop} (q : Q [] H) : tPairs [] σ H Q := q
theorem w_pC {tk tv : TE} {r : List (TE × TE)} {σ : L2.St} {H : Hp} {Q : List (V × V) → Hp → Prop} (q : tk σ H fun k H1 => tv σ H1 fun v H2 => tPairs r σ H2 fun ps H3 => Q ((k, v) :: ps) H3) : tPairs ((tk, tv) :: r) σ H Q := q
local macro_rules | `(tactic| walk_at "w1") => `(tactic| first
  | (with_reducible refine w_pN ?_)
  | (with_reducible refine w_pC ?_))
theorem DrawC.hdl {H : Hp} {d c : Addr} (h : DrawC H d c) : (∃ xs, H d = some (.lst xs)) ∧ H d = H d := ⟨by obtain ⟨cs, i, cur, seed, hd, _⟩ := h; exact ⟨_, hd⟩, rfl⟩
/-- the generator's state, told from the heap that it began with -/
structure Im (H0 : Hp) (d cc p c a : Addr) (C A T : Int) (S : PS) (H : Hp) : Prop where
  pt : PAt H p S
  bt : But d H0 H
  e1 : S.d = d
  e2 : S.cc = cc
  e3 : S.c = c
  e4 : S.a = a
  c6 : (S.code.length : Int) + 6 * S.left ≤ C
  a6 : (S.at_.length : Int) + 6 * S.left ≤ A
  t6 : (S.tbl.length : Int) + 6 * S.left ≤ T
  l : S.calls.length ≤ 2
structure Fr3 (H0 : Hp) (p c a : Addr) : Prop where
  np : H0 p = none
  nc : H0 c = none
  na : H0 a = none
section
variable {H0 H1 H2 : Hp} {d cc p c a : Addr} {C A T : Int} {S1 S2 : PS}
theorem Im.fr (I : Im H0 d cc p c a C A T S1 H1) (F : Fr3 H0 p c a) (f : FrP p S1 H1 H2) : But d H0 H2 := fun b o n e => f b o (ne_of_none e F.np) (by rw [I.e1]; exact n) (by rw [I.e3]; exact ne_of_none e F.nc) (by rw [I.e4]; exact ne_of_none e F.na) (I.bt b o n e)
theorem Im.rch {x y z : Nat} (I : Im H0 d cc p c a C A T S1 H1) (F : Fr3 H0 p c a) (R : Rch p S1 H1 x y z S2 H2) : Im H0 d cc p c a (C + x) (A + y) (T + z) S2 H2 := by
  have := I.c6; have := I.a6; have := I.t6; have := R.c6; have := R.a6; have := R.t6
  exact ⟨R.pt, I.fr F R.fr, R.ed.trans I.e1, R.ek.trans I.e2, R.ec.trans I.e3, R.ea.trans I.e4, by omega, by omega, by omega, by rw [R.eq]; exact I.l⟩
theorem Im.tot {m : Int} (I : Im H0 d cc p c a C A T S1 H1) (h1 : C ≤ m) (h2 : A ≤ m) (h3 : T ≤ m) : Tot S1 m := by
  have := I.c6; have := I.a6; have := I.t6; have := I.l
  exact ⟨by omega, by omega, by omega, by omega⟩
theorem Im.sm (I : Im H0 d cc p c a C A T S1 H1) (s : Same H1 H2) : Im H0 d cc p c a C A T S1 H2 := { I with pt := I.pt.same s, bt := fun b o n e => s _ _ (I.bt b o n e) }
theorem Im.take (I : Im H0 d cc p c a C A T S1 H1) (F : Fr3 H0 p c a) (b : But d H1 H2) (hd : DrawC H2 d cc) : Im H0 d cc p c a C A T S1 H2 := by
  obtain ⟨h, f⟩ := I.pt.draw (H' := H2) (by rw [I.e1]; exact b) (by rw [I.e1, I.e2]; exact hd)
  exact { I with pt := h, bt := I.fr F f }
theorem Im.hd (I : Im H0 d cc p c a C A T S1 H1) : DrawC H1 d cc := by have := I.pt.hd; rw [I.e1, I.e2] at this; exact this
theorem _root_.K06.PAt.but {H H' : Hp} {x : Addr} {xs : List V} {S : PS} (h : PAt H p S) (b : But x H H') (hx : H x = some (.lst xs)) (n1 : S.d ≠ x) (n2 : S.cc ≠ x) (n3 : S.c ≠ x) (n4 : S.a ≠ x) (n5 : S.cl ≠ x) (n6 : S.tb ≠ x) : PAt H' p S :=
  { h with hp := b _ _ (h.nep hx).symm h.hp, hd := h.hd.keep (fun o => b _ o n1) (fun o => b _ o n2), hc := b _ _ n3 h.hc, ha := b _ _ n4 h.ha, hcl := b _ _ n5 h.hcl, htb := b _ _ n6 h.htb, rows := fun u hu => (h.rows u hu).keep (.lst b hx) (Nat.le_refl _) }
theorem Im.but {x : Addr} {xs : List V} (I : Im H0 d cc p c a C A T S1 H1) (b : But x H1 H2) (hx : H1 x = some (.lst xs)) (nx : H0 x = none) (n1 : d ≠ x) (n2 : cc ≠ x) (n3 : c ≠ x) (n4 : a ≠ x) (n5 : S1.cl ≠ x) (n6 : S1.tb ≠ x) : Im H0 d cc p c a C A T S1 H2 :=
  { I with pt := I.pt.but b hx (by rw [I.e1]; exact n1) (by rw [I.e2]; exact n2) (by rw [I.e3]; exact n3) (by rw [I.e4]; exact n4) n5 n6, bt := fun y o n e => b y o (ne_of_none e nx) (I.bt y o n e) }
theorem _root_.K06.PAt.setcl {H H' : Hp} {t : Addr} {S : PS} {ts : List Int} (h : PAt H p S) (b : But p H H') (hp : H' p = some (.dK (pD (.ref S.d) (.ref S.c) (.ref S.a) (.ref t) (.ref S.tb) (.int S.left)))) (ht : H t = some (.lst (ts.map V.int))) (n1 : t ≠ S.d) (n2 : t ≠ S.c) (n3 : t ≠ S.a) (hts : ∀ l ∈ ts, 0 ≤ l ∧ l < S.at_.length) : PAt H' p { S with cl := t, calls := ts } ∧ FrP p S H H' := by
  obtain ⟨xs, hx⟩ := h.hdl
  obtain ⟨ys, hy⟩ := h.hccl
  refine ⟨{ h with hp := hp, hd := h.hd.keep (fun o => b _ o (h.nep hx)) (fun o => b _ o (h.nep hy)), hc := b _ _ (h.nep h.hc) h.hc, ha := b _ _ (h.nep h.ha) h.ha, hcl := b _ _ (h.nep ht) ht, htb := b _ _ (h.nep h.htb) h.htb, ld := n1, lc := n2, la := n3, rows := fun v hv => (h.rows v hv).keep (.dic b h.hp) (Nat.le_refl _), cls := hts }, fun q o h1 _ _ _ e => b q o h1 e⟩
theorem Im.setcl {t : Addr} {ts : List Int} (I : Im H0 d cc p c a C A T S1 H1) (F : Fr3 H0 p c a) (b : But p H1 H2) (hp : H2 p = some (.dK (pD (.ref S1.d) (.ref S1.c) (.ref S1.a) (.ref t) (.ref S1.tb) (.int S1.left)))) (ht : H1 t = some (.lst (ts.map V.int))) (n1 : t ≠ d) (n2 : t ≠ c) (n3 : t ≠ a) (hl : ts.length ≤ 2) (hts : ∀ l ∈ ts, 0 ≤ l ∧ l < S1.at_.length) : Im H0 d cc p c a C A T { S1 with cl := t, calls := ts } H2 := by
  obtain ⟨h, f⟩ := I.pt.setcl b hp ht (by rw [I.e1]; exact n1) (by rw [I.e3]; exact n2) (by rw [I.e4]; exact n3) hts
  exact ⟨h, I.fr F f, I.e1, I.e2, I.e3, I.e4, I.c6, I.a6, I.t6, hl⟩
theorem Im.setlf {m : Int} (I : Im H0 d cc p c a C A T S1 H1) (F : Fr3 H0 p c a) (b : But p H1 H2) (hp : H2 p = some (.dK (pD (.ref S1.d) (.ref S1.c) (.ref S1.a) (.ref S1.cl) (.ref S1.tb) (.int m)))) (hm : 0 ≤ m) : Im H0 d cc p c a (C + 6 * m) (A + 6 * m) (T + 6 * m) { S1 with left := m } H2 := by
  obtain ⟨h, f⟩ := I.pt.lft b hp hm
  have := I.c6; have := I.a6; have := I.t6; have := I.pt.lf
  exact ⟨h, I.fr F f, I.e1, I.e2, I.e3, I.e4, by show (S1.code.length : Int) + 6 * m ≤ _; omega, by show (S1.at_.length : Int) + 6 * m ≤ _; omega, by show (S1.tbl.length : Int) + 6 * m ≤ _; omega, I.l⟩
theorem x_set {n v : Int} {Q : VK} {E : XK} {x y z : Nat} {S : PS} {H : Hp} (R : Rch p S H x y z S1 H1) (hm : S1.code.length ≤ 99990) (hn : R16 n) (q : ∀ (S2 : PS) H2, Rch p S H (x + 2) y z S2 H2 → Q .non H2) : spSet [.ref p, .int n, .int v] H1 Q E := by
  refine ⟨p, S1, n, v, rfl, R.pt, hm, hn, fun v1 v2 H2 hP f => q { S1 with code := S1.code ++ [v1, v2] } H2 ?_⟩
  have := R.c6; have := R.cg
  exact { R with pt := hP, fr := R.fr.trans f R.ed R.ec R.ea, cg := by show S.code.length ≤ (S1.code ++ [v1, v2]).length; rw [List.length_append]; omega, c6 := by show ((S1.code ++ [v1, v2]).length : Int) + _ ≤ _; rw [List.length_append]; simp only [List.length_cons, List.length_nil]; show ((S1.code.length + (0 + 1 + 1) : Nat) : Int) + 6 * S1.left ≤ _; omega }
end
/-- an image laid down: three segments and three symbols -/
def ImgAt (H : Hp) (t : Addr) (b : Int) (x1 x2 x3 : List Int) : Prop := ∃ sg sy s1 s2 s3 v1 v2 v3 y1 y2 y3 : Addr,
  H t = some (.tup [.ref sg, .int b, .ref sy]) ∧ H sg = some (.tup [.ref s1, .ref s2, .ref s3]) ∧
  H s1 = some (.tup [.int b, .ref v1, .bl false, .bl true]) ∧ H v1 = some (.tup (x1.map V.int)) ∧
  H s2 = some (.tup [.int (b + 2048), .ref v2, .bl true, .bl false]) ∧ H v2 = some (.tup (x2.map V.int)) ∧
  H s3 = some (.tup [.int (b + 4096), .ref v3, .bl false, .bl false]) ∧ H v3 = some (.tup (x3.map V.int)) ∧
  H sy = some (.tup [.ref y1, .ref y2, .ref y3]) ∧ H y1 = some (.tup [.int b, .str "start"]) ∧ H y2 = some (.tup [.int (b + 2048), .str "data"]) ∧ H y3 = some (.tup [.int (b + 4096), .str "table"])
structure ImOk (left b : Int) (x1 x2 x3 : List Int) : Prop where
  hb : b = 64 ∨ b = 4096 ∨ b = 1048576 ∨ b = 2147483648
  h1 : ∃ n : Nat, x1.length = 4 * n ∧ 1 ≤ n ∧ (n : Int) ≤ 55 + 6 * left
  h2 : x2.length = 24
  h3 : ∃ n : Nat, x3.length = 4 * n ∧ 3 ≤ n ∧ (n : Int) ≤ 51 + 6 * left
  b1 : ∀ x ∈ x1, B8 x
  b2 : ∀ x ∈ x2, B8 x
  b3 : ∀ x ∈ x3, B8 x
def spImage : Sp := fun vs H Q _ => ∃ (d cc : Addr) (left : Int), vs = [.ref d, .int left] ∧ DrawC H d cc ∧ 0 ≤ left ∧ left ≤ 72 ∧ ∀ (t : Addr) (b : Int) (x1 x2 x3 : List Int) H', ImgAt H' t b x1 x2 x3 → ImOk left b x1 x2 x3 → DrawC H' d cc → But d H H' → Q (.ref t) H'
section
variable {P : Program} {w : World} {K : PySem.W.Frag} {mg : Str → Option Value} {base : Heap}
theorem ok_law_image (b_len : mg "len" = none) (b_range : mg "range" = none) (b_min : mg "min" = none) (b_tuple : mg "tuple" = none) (c_law_take : Cd P w K mg base 1 "_law_take" spTake) (c_law_set : Cd P w K mg base 2 "_law_set" spSet) (c_law_label : Cd P w K mg base 1 "_law_label" spLabel) (c_law_here : Cd P w K mg base 1 "_law_here" spHere) (c_law_rows : Cd P w K mg base 10 "_law_rows" (spRows 2)) (c_law_put_word : Cd P w K mg base 1 "_law_put_word" spPut) (c_law_code_words : Cd P w K mg base 3 "_law_code_words" spCW) (c_law_values : Cd P w K mg base 2 "_law_values" spValues) (Z : St1 K mg "_law_image" s_law_image ["draw", "left"]) : Cd P w K mg base 11 "_law_image" spImage := by
  refine Z.cd sc_law_image (fun vs H Q E h => by obtain ⟨d, cc, left, rfl, _⟩ := h; rfl) (fun f cdv A outer s H vs Q E hr h => ?_)
  obtain ⟨d, cc, left, rfl, hd, l0, l1, q⟩ := h
  have hu := hu_of hr
  refine ⟨_, (pss_cons (ps_set (i := 2) sc_law_image.nd rfl (.inr rfl) (pe_ix ix_list (pe_lst (pa_cons pe_int (pa_cons pe_int (pa_cons (pe_op op_pow pe_int pe_int) (pa_cons (pe_op op_pow pe_int pe_int) pa_nil))))) (pe_cd c_law_take hr (by first | decide | omega) (by rfl) (pa_cons (pv 0) (pa_cons pe_int pa_nil))) (fun _ _ => rfl)))
      (pss_cons (ps_set (i := 3) sc_law_image.nd rfl (.inr rfl) (pe_disp (pps_cons pe_str (pv 0) (pps_cons pe_str (pe_lst pa_nil) (pps_cons pe_str (pe_lst pa_nil) (pps_cons pe_str (pe_lst pa_nil) (pps_cons pe_str (pe_lst pa_nil) (pps_cons pe_str (pv 1) pps_nil)))))) (by rfl) (by rfl) (fun z => by cases z) (by decide)))
      (pss_cons (ps_expr (pe_cd c_law_set hr (by first | decide | omega) (by rfl) (pa_cons (pv 3) (pa_cons pe_int (pa_cons (pe_op op_add (pv 2) pe_int) pa_nil)))))
      (pss_cons (ps_expr (pe_cd c_law_set hr (by first | decide | omega) (by rfl) (pa_cons (pv 3) (pa_cons pe_int (pa_cons (pe_op op_add (pv 2) pe_int) pa_nil)))))
      (pss_cons (ps_set (i := 4) sc_law_image.nd rfl (.inl rfl) (pe_lst pa_nil))
      (pss_cons (ps_for PassesOwn.never rfl (pi_range1 (by rfl) b_range (pa_cons (pe_cd c_law_take hr (by first | decide | omega) (by rfl) (pa_cons (pv 0) (pa_cons pe_int pa_nil))) pa_nil)) (pg_name (i := 5) sc_law_image.nd rfl (.inl rfl))
      (pss_one (ps_expr (pe_bm PySem.F.plainAttrs_list PySem.F.slot_list_append PySem.F.type_list_append mt_append (pv 4) (pa_cons (pe_cd c_law_label hr (by first | decide | omega) (by rfl) (pa_cons (pv 3) pa_nil)) pa_nil)))))
      (pss_cons (ps_dput hu (pv 3) pe_str (pv 4) rfl)
      (pss_cons (ps_expr (pe_cd c_law_rows hr (by first | decide | omega) (by rfl) (pa_cons (pv 3) (pa_cons pe_int pa_nil))))
      (pss_cons (ps_expr (pe_cd c_law_put_word hr (by first | decide | omega) (by rfl) (pa_cons (pv 3) (pa_cons (pe_tup (pa_cons pe_str (pa_cons (pe_op op_add pe_int (pe_cd c_law_take hr (by first | decide | omega) (by rfl) (pa_cons (pv 0) (pa_cons pe_int pa_nil)))) pa_nil))) pa_nil))))
      (pss_cons (ps_for PassesOwn.never rfl (pi_range1 (by rfl) b_range (pa_cons (pe_callB call_lenQ (by rfl) b_len PySem.boot_len (pa_cons (pv 4) pa_nil)) pa_nil)) (pg_name (i := 5) sc_law_image.nd rfl (.inl rfl))
      (pss_cons (ps_dput hu (pv 3) pe_str (pe_lst pa_nil) rfl)
      (pss_cons (ps_expr (pe_cd c_law_here hr (by first | decide | omega) (by rfl) (pa_cons (pv 3) (pa_cons (pe_ix ix_list (pv 4) (pv 5) (fun _ _ => rfl)) pa_nil))))
      (pss_cons (ps_dput hu (pv 3) pe_str (pe_callB (call_min2 rfl) (by rfl) b_min (by decide +kernel) (pa_cons pe_int (pa_cons (pv 1) pa_nil))) rfl)
      (pss_cons (ps_expr (pe_cd c_law_rows hr (by first | decide | omega) (by rfl) (pa_cons (pv 3) (pa_cons pe_int pa_nil))))
      (pss_one (ps_expr (pe_cd c_law_put_word hr (by first | decide | omega) (by rfl) (pa_cons (pv 3) (pa_cons (pe_tup (pa_cons pe_str (pa_cons pe_int (pa_cons pe_int (pa_cons pe_int pa_nil))))) pa_nil))))))))))
      (pss_cons (ps_set (i := 6) sc_law_image.nd rfl (.inl rfl) (pe_cd c_law_code_words hr (by first | decide | omega) (by rfl) (pa_cons (pv 3) pa_nil)))
      (pss_cons (ps_set (i := 7) sc_law_image.nd rfl (.inl rfl) (pe_op op_cat (pe_lc (own := [("label", 11)]) rfl sc_law_image.nd (pi_list (pe_dget hu (pv 3) pe_str (fun _ _ => rfl))) (blkOk_by (own := [("label", 11)]) (N := ["draw", "left", "base", "p", "functions", "k", "words", "table", "data", "segments", "symbols", "label"]) (sc := (defScope s_law_image)) (by decide +kernel)) (fun _ _ _ _ _ => (pg_name (i := 11) sc_law_image.nd rfl (.inl rfl))) (fun _ _ _ _ _ => pts_nil) (fun _ _ _ _ _ => (pe_op op_add (pv 2) (pe_op op_mul pe_int (pe_ix (ix_listK (K' := K) (by rfl)) (pe_dget hu (pv 3) pe_str (fun _ _ => rfl)) (pv 11) (fun _ _ => rfl)))))) (pe_lst (pa_cons (pv 2) (pa_cons pe_int (pa_cons (pe_cd c_law_take hr (by first | decide | omega) (by rfl) (pa_cons (pv 0) (pa_cons (pe_op op_pow pe_int pe_int) pa_nil))) pa_nil))))))
      (pss_cons (ps_setLc (i := 8) (own := [("k", 5)]) rfl sc_law_image.nd rfl rfl (sw_true rfl rfl rfl (by decide +kernel)) (pi_range1 (by rfl) b_range (pa_cons pe_int pa_nil)) (blkOk_by (own := [("k", 5)]) (N := ["draw", "left", "base", "p", "functions", "k", "words", "table", "data", "segments", "symbols", "label"]) (sc := (defScope s_law_image)) (by decide +kernel)) (fun _ _ _ _ _ => (pg_name (i := 5) sc_law_image.nd rfl (.inl rfl))) (fun _ _ _ _ _ => pts_nil) (fun _ _ _ _ _ => (pe_cd c_law_take hr (by first | decide | omega) (by rfl) (pa_cons (pv 0) (pa_cons pe_int pa_nil)))))
      (pss_cons (ps_set (i := 9) sc_law_image.nd rfl (.inl rfl) (pe_tup (pa_cons (pe_tup (pa_cons (pv 2) (pa_cons (pe_cd c_law_values hr (by first | decide | omega) (by rfl) (pa_cons (pv 6) pa_nil)) (pa_cons pe_bl (pa_cons pe_bl pa_nil))))) (pa_cons (pe_tup (pa_cons (pe_op op_add (pv 2) pe_int) (pa_cons (pe_callTy call_tupQ (by rfl) b_tuple (by decide +kernel) (pa_cons (pv 8) pa_nil)) (pa_cons pe_bl (pa_cons pe_bl pa_nil))))) (pa_cons (pe_tup (pa_cons (pe_op op_add (pv 2) pe_int) (pa_cons (pe_cd c_law_values hr (by first | decide | omega) (by rfl) (pa_cons (pv 7) pa_nil)) (pa_cons pe_bl (pa_cons pe_bl pa_nil))))) pa_nil)))))
      (pss_cons (ps_set (i := 10) sc_law_image.nd rfl (.inl rfl) (pe_tup (pa_cons (pe_tup (pa_cons (pv 2) (pa_cons pe_str pa_nil))) (pa_cons (pe_tup (pa_cons (pe_op op_add (pv 2) pe_int) (pa_cons pe_str pa_nil))) (pa_cons (pe_tup (pa_cons (pe_op op_add (pv 2) pe_int) (pa_cons pe_str pa_nil))) pa_nil)))))
      (pss_one (ps_ret (pe_tup (pa_cons (pv 9) (pa_cons (pv 2) (pa_cons (pv 10) pa_nil))))))))))))))))))))), ?_⟩
  (with_reducible refine w_seq ?_)
  (with_reducible refine w_asg ?_)
  (with_reducible refine w_op ?_)
  (with_reducible refine w_lst ?_)
  (with_reducible refine w_cons ?_)
  (with_reducible refine w_c ?_)
  (with_reducible refine w_cons ?_)
  (with_reducible refine w_c ?_)
  (with_reducible refine w_cons ?_)
  (with_reducible refine w_op ?_)
  (with_reducible refine w_c ?_)
  (with_reducible refine w_c ?_)
  (with_reducible refine w_p20 ?_)
  (with_reducible refine w_cons ?_)
  (with_reducible refine w_op ?_)
  (with_reducible refine w_c ?_)
  (with_reducible refine w_c ?_)
  (with_reducible refine w_p31 ?_)
  (with_reducible refine w_nil ?_)
  refine w_kLst (by show 4 ≤ sizeLine; decide) fun g H1 ng s1 hg => ?_
  (with_reducible refine w_call ?_)
  (with_reducible refine w_cons ?_)
  ((with_reducible refine' w_var ?hv ?_); (case hv => exact rfl))
  (with_reducible refine w_cons ?_)
  (with_reducible refine w_c ?_)
  (with_reducible refine w_nil ?_)
  refine w_take (hd.same s1) (by decide) (by decide) fun r H2 r0 r1 hd2 b2 => ?_
  obtain ⟨v, hv, hat⟩ := pick_any [V.int 64, V.int 4096, V.int 1048576, V.int 2147483648] r0 r1
  obtain ⟨bs, hbs, rfl⟩ : ∃ b : Int, (b = 64 ∨ b = 4096 ∨ b = 1048576 ∨ b = 2147483648) ∧ v = .int b := by
    simp only [List.mem_cons, List.not_mem_nil, or_false] at hv
    rcases hv with rfl | rfl | rfl | rfl <;> exact ⟨_, by decide, rfl⟩
  refine w_ixL (b2 _ _ (hd.ne ng) hg) hat ?_
  (with_reducible refine w_name ?_)
  (with_reducible refine w_seq ?_)
  (with_reducible refine w_asg ?_)
  refine w_disp fun p np => ?_
  (with_reducible refine w_pC ?_)
  (with_reducible refine w_c ?_)
  ((with_reducible refine' w_var ?hv ?_); (case hv => exact rfl))
  (with_reducible refine w_pC ?_)
  (with_reducible refine w_c ?_)
  (with_reducible refine w_lst ?_)
  (with_reducible refine w_nil ?_)
  refine w_kLst (by show 0 ≤ sizeLine; decide) fun c H3 nc s3 hc3 => ?_
  (with_reducible refine w_pC ?_)
  (with_reducible refine w_c ?_)
  (with_reducible refine w_lst ?_)
  (with_reducible refine w_nil ?_)
  refine w_kLst (by show 0 ≤ sizeLine; decide) fun a H4 na s4 ha4 => ?_
  (with_reducible refine w_pC ?_)
  (with_reducible refine w_c ?_)
  (with_reducible refine w_lst ?_)
  (with_reducible refine w_nil ?_)
  refine w_kLst (by show 0 ≤ sizeLine; decide) fun cl H5 ncl s5 hcl5 => ?_
  (with_reducible refine w_pC ?_)
  (with_reducible refine w_c ?_)
  (with_reducible refine w_lst ?_)
  (with_reducible refine w_nil ?_)
  refine w_kLst (by show 0 ≤ sizeLine; decide) fun tb H6 ntb s6 htb6 => ?_
  (with_reducible refine w_pC ?_)
  (with_reducible refine w_c ?_)
  ((with_reducible refine' w_var ?hv ?_); (case hv => exact rfl))
  (with_reducible refine w_pN ?_)
  have hp6 : H6 p = some (.dK []) := s6 _ _ (s5 _ _ (s4 _ _ (s3 _ _ upd_same)))
  refine ⟨hp6, [(kS "draw", .ref d), (kS "code", .ref c), (kS "at", .ref a), (kS "calls", .ref cl), (kS "table", .ref tb), (kS "left", .int left)], rfl, by show 6 ≤ 15; decide, ?_⟩
  (with_reducible refine w_name ?_)
  (with_reducible refine w_seq ?_)
  (with_reducible refine w_drop ?_)
  (with_reducible refine w_call ?_)
  (with_reducible refine w_cons ?_)
  ((with_reducible refine' w_var ?hv ?_); (case hv => exact rfl))
  (with_reducible refine w_cons ?_)
  (with_reducible refine w_c ?_)
  (with_reducible refine w_cons ?_)
  (with_reducible refine w_op ?_)
  ((with_reducible refine' w_var ?hv ?_); (case hv => exact rfl))
  (with_reducible refine w_c ?_)
  (with_reducible refine w_I0 ?_)
  (with_reducible refine w_nil ?_)
  obtain ⟨⟨xs, hdx⟩, _⟩ := hd2.hdl
  obtain ⟨ys, hcx⟩ : ∃ ys, H2 cc = some (.lst ys) := by obtain ⟨cs, i, cur, seed, _, h, _⟩ := hd2; exact ⟨_, h⟩
  have sx : Same H2 (upd H2 p (.dK [])) := Same.new np
  have s26 : Same H2 H6 := sx.trans (s3.trans (s4.trans (s5.trans s6)))
  have cp : c ≠ p := (ne_of_none upd_same nc).symm
  have ap : a ≠ p := (ne_of_none (s3 _ _ upd_same) na).symm
  have clp : cl ≠ p := (ne_of_none (s4 _ _ (s3 _ _ upd_same)) ncl).symm
  have tbp : tb ≠ p := (ne_of_none (s5 _ _ (s4 _ _ (s3 _ _ upd_same))) ntb).symm
  have d3 := s3 _ _ (sx _ _ hdx)
  have c3' := s3 _ _ (sx _ _ hcx)
  have k7 : ∀ {o' : HO} b o, b ≠ p → H6 b = some o → upd H6 p o' b = some o := fun b o n e => by rw [upd_ne n]; exact e
  have up : ∀ {x : Addr}, H2 x = none → x ≠ d → H x = none := fun {x} n nd => by
    cases e : H x with
    | none => rfl
    | some o => have := b2 _ _ nd (s1 _ _ e); rw [n] at this; cases this
  have F : Fr3 H p c a := ⟨up np (ne_of_none hdx np).symm, up (fresh sx nc) (ne_of_none (sx _ _ hdx) nc).symm, up (fresh (sx.trans s3) na) (ne_of_none d3 na).symm⟩
  have I0 : Im H d cc p c a (6 * left) (6 * left) (6 * left) ⟨d, cc, c, a, cl, tb, [], [], [], [], left⟩ (upd H6 p (.dK (pD (.ref d) (.ref c) (.ref a) (.ref cl) (.ref tb) (.int left)))) := by
    refine ⟨?_, fun b o n e => k7 b o (ne_of_none e F.np) (s26 _ _ (b2 _ _ n (s1 _ _ e))), rfl, rfl, rfl, rfl, by show ((0 : Nat) : Int) + 6 * left ≤ _; omega, by show ((0 : Nat) : Int) + 6 * left ≤ _; omega, by show ((0 : Nat) : Int) + 6 * left ≤ _; omega, by show 0 ≤ 2; decide⟩
    exact { hp := upd_same, hd := hd2.keep (fun o e => k7 _ _ (ne_of_none hdx np) (s26 _ _ e)) (fun o e => k7 _ _ (ne_of_none hcx np) (s26 _ _ e)), hc := k7 _ _ cp (s6 _ _ (s5 _ _ (s4 _ _ hc3))), ha := k7 _ _ ap (s6 _ _ (s5 _ _ ha4)), hcl := k7 _ _ clp (s6 _ _ hcl5), htb := k7 _ _ tbp htb6, dc := ne_of_none (sx _ _ hdx) nc, da := ne_of_none d3 na, ca := ne_of_none hc3 na, ec := ne_of_none (sx _ _ hcx) nc, ea := ne_of_none c3' na, ld := (ne_of_none (s4 _ _ d3) ncl).symm, lc := (ne_of_none (s4 _ _ hc3) ncl).symm, la := (ne_of_none ha4 ncl).symm, td := (ne_of_none (s5 _ _ (s4 _ _ d3)) ntb).symm, tc := (ne_of_none (s5 _ _ (s4 _ _ hc3)) ntb).symm, ta := (ne_of_none (s5 _ _ ha4) ntb).symm, rows := fun v h => (by cases h), cls := fun v h => (by cases h), tls := fun v h => (by cases h), ats := fun v h => (by cases h), lf := l0 }
  refine x_set (Rch.refl I0.pt) (by show 0 ≤ 99990; decide) ⟨by decide, by decide⟩ fun S8 H8 R8 => ?_
  have I8 := I0.rch F R8
  (with_reducible refine w_seq ?_)
  (with_reducible refine w_drop ?_)
  (with_reducible refine w_call ?_)
  (with_reducible refine w_cons ?_)
  ((with_reducible refine' w_var ?hv ?_); (case hv => exact rfl))
  (with_reducible refine w_cons ?_)
  (with_reducible refine w_c ?_)
  (with_reducible refine w_cons ?_)
  (with_reducible refine w_op ?_)
  ((with_reducible refine' w_var ?hv ?_); (case hv => exact rfl))
  (with_reducible refine w_c ?_)
  (with_reducible refine w_I0 ?_)
  (with_reducible refine w_nil ?_)
  refine x_set (Rch.refl I8.pt) (by have := I8.c6; have := I8.pt.lf; omega) ⟨by decide, by decide⟩ fun S9 H9 R9 => ?_
  have I9 := I8.rch F R9
  (with_reducible refine w_seq ?_)
  (with_reducible refine w_asg ?_)
  (with_reducible refine w_lst ?_)
  (with_reducible refine w_nil ?_)
  refine w_kLst (by show 0 ≤ sizeLine; decide) fun fl H10 nfl s10 hfl => ?_
  (with_reducible refine w_name ?_)
  (with_reducible refine w_seq ?_)
  (with_reducible refine w_for ?_)
  (with_reducible refine w_rng1 ?_)
  (with_reducible refine w_cons ?_)
  (with_reducible refine w_call ?_)
  (with_reducible refine w_cons ?_)
  ((with_reducible refine' w_var ?hv ?_); (case hv => exact rfl))
  (with_reducible refine w_cons ?_)
  (with_reducible refine w_c ?_)
  (with_reducible refine w_nil ?_)
  have I10 := I9.sm s10
  have fp : fl ≠ p := (ne_of_none I9.pt.hp nfl).symm
  have fd : d ≠ fl := by obtain ⟨⟨xs, h⟩, _⟩ := I9.hd.hdl; exact ne_of_none h nfl
  have fcc : cc ≠ fl := by obtain ⟨cs, i, cur, seed, _, h, _⟩ := I9.hd; exact ne_of_none h nfl
  have fc : c ≠ fl := by have := I9.pt.hc; rw [I9.e3] at this; exact ne_of_none this nfl
  have fa : a ≠ fl := by have := I9.pt.ha; rw [I9.e4] at this; exact ne_of_none this nfl
  have fcl : S9.cl ≠ fl := ne_of_none I9.pt.hcl nfl
  have ftb : S9.tb ≠ fl := ne_of_none I9.pt.htb nfl
  have nf0 : H fl = none := by
    cases e : H fl with
    | none => rfl
    | some o => have := I9.bt _ _ fd.symm e; rw [nfl] at this; cases this
  have keepF : ∀ {S : PS} {Ha Hb : Hp} {o : HO}, FrP p S Ha Hb → S.d = d → S.c = c → S.a = a → Ha fl = some o → Hb fl = some o := fun f h1 h2 h3 e => f fl _ fp (by rw [h1]; exact fd.symm) (by rw [h2]; exact fc.symm) (by rw [h3]; exact fa.symm) e
  refine w_take I10.hd (by decide) (by decide) fun m H11 m0 m1 hd11 b11 => ?_
  have I11 := I10.take F b11 hd11
  (with_reducible refine w_nil ?_)
  refine w_forR m.toNat (fun i σ H' => ∃ (S' : PS) (fs : List Int) (u : Option V), Im H d cc p c a (6 * left + 4) (6 * left + i) (6 * left) S' H' ∧ S'.cl = S9.cl ∧ S'.tb = S9.tb ∧ H' fl = some (.lst (fs.map V.int)) ∧ fs.length = i ∧ (∀ x ∈ fs, 0 ≤ x ∧ x < S'.at_.length) ∧ σ = [some (.ref d), some (.int left), some (.int bs), some (.ref p), some (.ref fl), u, none, none, none, none, none, none]) rfl (by omega) ⟨S9, [], _, { I11 with c6 := by have := I11.c6; omega, a6 := by have := I11.a6; omega, t6 := by have := I11.t6; omega }, rfl, rfl, b11 _ _ fd.symm hfl, rfl, (fun _ h => by cases h), rfl⟩ (fun i σ H12 hi h => ?_) (fun σ H12 h => ?_)
  · obtain ⟨S', fs, u, I, ecl, etb, hfs, efs, hin, rfl⟩ := h
    (with_reducible refine w_name ?_)
    (with_reducible refine w_drop ?_)
    (with_reducible refine w_bm ?_)
    ((with_reducible refine' w_var ?hv ?_); (case hv => exact rfl))
    ((with_reducible refine' w_tyL ?hh ?_); (case hh => assumption))
    (with_reducible refine w_cons ?_)
    (with_reducible refine w_call ?_)
    (with_reducible refine w_cons ?_)
    ((with_reducible refine' w_var ?hv ?_); (case hv => exact rfl))
    (with_reducible refine w_nil ?_)
    have hT : Tot S' 1000 := I.tot (by omega) (by omega) (by omega)
    refine ⟨p, S', rfl, I.pt, by have := hT.a; have := I.pt.lf; omega, fun H13 hP f => ?_⟩
    have R : Rch p S' H12 0 1 0 { S' with at_ := S'.at_ ++ [-1] } H13 := (Rch.refl I.pt).lab 1 hP f (by rw [List.length_append]; rfl)
    have I2 := I.rch F R
    (with_reducible refine w_nil ?_)
    refine w_append (keepF f I.e1 I.e3 I.e4 hfs) (by rw [List.length_map]; exact Nat.lt_of_le_of_lt (show fs.length ≤ 100 by omega) (by decide)) fun H14 hf14 b14 => ?_
    have I3 := I2.but b14 (keepF f I.e1 I.e3 I.e4 hfs) nf0 fd fcc fc fa (by show S'.cl ≠ fl; rw [ecl]; exact fcl) (by show S'.tb ≠ fl; rw [etb]; exact ftb)
    skip
    refine ⟨_, fs ++ [(S'.at_.length : Int)], _, { I3 with c6 := by have := I3.c6; omega, a6 := by have := I3.a6; omega, t6 := by have := I3.t6; omega }, ecl, etb, by rw [hf14, List.map_append]; rfl, by rw [List.length_append, efs]; rfl, fun x hx => ?_, rfl⟩
    have e : ((S'.at_ ++ [-1]).length : Int) = S'.at_.length + 1 := by rw [List.length_append]; rfl
    show 0 ≤ x ∧ x < ((S'.at_ ++ [-1]).length : Int)
    rcases List.mem_append.mp hx with hx | hx
    · have := hin x hx; omega
    · rw [List.mem_singleton.mp hx]; omega
  · obtain ⟨S12, fs, u, I12, ecl, etb, hfs, efs, hin, rfl⟩ := h
    (with_reducible refine w_seq ?_)
    (with_reducible refine w_dput ?_)
    ((with_reducible refine' w_var ?hv ?_); (case hv => exact rfl))
    ((with_reducible refine' w_var ?hv ?_); (case hv => exact rfl))
    (with_reducible refine w_c ?_)
    refine w_kDP I12.pt.hp (by show 6 < 1000; decide) rfl fun H13 hp13 b13 => ?_
    have I13 := I12.setcl F b13 hp13 hfs fd.symm fc.symm fa.symm (by omega) hin
    (with_reducible refine w_seq ?_)
    (with_reducible refine w_drop ?_)
    (with_reducible refine w_call ?_)
    (with_reducible refine w_cons ?_)
    ((with_reducible refine' w_var ?hv ?_); (case hv => exact rfl))
    (with_reducible refine w_cons ?_)
    (with_reducible refine w_c ?_)
    (with_reducible refine w_nil ?_)
    refine x_rows (Rch.refl I13.pt) (m := 1000) (I13.tot (by omega) (by omega) (by omega)) (by omega) (by omega) (by omega) (by decide) fun S14 H14 g14 R14 => ?_
    have I14 := I13.rch F R14
    have hf14 := keepF R14.fr I12.e1 I12.e3 I12.e4 (b13 _ _ fp hfs)
    (with_reducible refine w_seq ?_)
    (with_reducible refine w_drop ?_)
    (with_reducible refine w_call ?_)
    (with_reducible refine w_cons ?_)
    ((with_reducible refine' w_var ?hv ?_); (case hv => exact rfl))
    (with_reducible refine w_cons ?_)
    (with_reducible refine w_tup ?_)
    (with_reducible refine w_cons ?_)
    (with_reducible refine w_c ?_)
    (with_reducible refine w_cons ?_)
    (with_reducible refine w_op ?_)
    (with_reducible refine w_c ?_)
    (with_reducible refine w_call ?_)
    (with_reducible refine w_cons ?_)
    ((with_reducible refine' w_var ?hv ?_); (case hv => exact rfl))
    (with_reducible refine w_cons ?_)
    (with_reducible refine w_c ?_)
    (with_reducible refine w_nil ?_)
    refine w_take I14.hd (by decide) (by decide) fun r15 H15 r0' r1' hd15 b15 => ?_
    have I15 := I14.take F b15 hd15
    have hf15 := b15 _ _ fd.symm hf14
    (with_reducible refine w_I0 ?_)
    (with_reducible refine w_nil ?_)
    refine w_kTup (by show 2 ≤ sizeLine; decide) fun t H16 nt s16 ht => ?_
    (with_reducible refine w_nil ?_)
    refine w_put (I15.sm s16).pt (by have := I15.c6; have := I15.pt.lf; omega) (rowIns (xs := [1 + r15]) 37 rfl (.s ⟨by omega, by omega⟩) ht) fun H17 hP17 f17 => ?_
    have R17 := (Rch.refl (I15.sm s16).pt).cod hP17 f17
    have I17 := (I15.sm s16).rch F R17
    have hf17 := keepF R17.fr I15.e1 I15.e3 I15.e4 (s16 _ _ hf15)
    have hin17 : ∀ x ∈ fs, 0 ≤ x ∧ x < S14.at_.length := fun x hx => by have := hin x hx; have g : S12.at_.length ≤ S14.at_.length := g14; omega
    (with_reducible refine w_seq ?_)
    (with_reducible refine w_for ?_)
    (with_reducible refine w_rng1 ?_)
    (with_reducible refine w_cons ?_)
    (with_reducible refine w_cb ?_)
    (with_reducible refine w_cons ?_)
    ((with_reducible refine' w_var ?hv ?_); (case hv => exact rfl))
    (with_reducible refine w_nil ?_)
    ((with_reducible refine' w_lenL ?hh ?_); (case hh => assumption))
    (with_reducible refine w_nil ?_)
    refine w_forR fs.length (fun i σ H' => ∃ (S' : PS) (u : Option V), Im H d cc p c a (6 * left + 5 + 25 * i) (6 * left + 2 + 24 * i) (6 * left + 24 * i) S' H' ∧ 1 ≤ S'.code.length ∧ H' fl = some (.lst (fs.map V.int)) ∧ (∀ x ∈ fs, 0 ≤ x ∧ x < S'.at_.length) ∧ σ = [some (.ref d), some (.int left), some (.int bs), some (.ref p), some (.ref fl), u, none, none, none, none, none, none]) (by simp) (by omega) ⟨_, _, { I17 with c6 := by have := I17.c6; omega, a6 := by have := I17.a6; omega, t6 := by have := I17.t6; omega }, by show 1 ≤ (S14.code ++ [_]).length; rw [List.length_append]; simp, hf17, hin17, rfl⟩ (fun i σ H18 hi h => ?_) (fun σ H18 h => ?_)
    · obtain ⟨S', u, I, hge, hf, hin', rfl⟩ := h
      (with_reducible refine w_name ?_)
      (with_reducible refine w_seq ?_)
      (with_reducible refine w_dput ?_)
      (with_reducible refine w_lst ?_)
      (with_reducible refine w_nil ?_)
      refine w_kLst (by show 0 ≤ sizeLine; decide) fun e H19 ne s19 he => ?_
      ((with_reducible refine' w_var ?hv ?_); (case hv => exact rfl))
      (with_reducible refine w_c ?_)
      have I19 := I.sm s19
      refine w_kDP I19.pt.hp (by show 6 < 1000; decide) rfl fun H20 hp20 b20 => ?_
      have I20 := I19.setcl (ts := []) F b20 hp20 he (by obtain ⟨⟨xs, h⟩, _⟩ := I.hd.hdl; exact (ne_of_none h ne).symm) (by have := I.pt.hc; rw [I.e3] at this; exact (ne_of_none this ne).symm) (by have := I.pt.ha; rw [I.e4] at this; exact (ne_of_none this ne).symm) (by show 0 ≤ 2; decide) (fun _ h => by cases h)
      have hf20 := b20 _ _ fp (s19 _ _ hf)
      (with_reducible refine w_seq ?_)
      (with_reducible refine w_drop ?_)
      (with_reducible refine w_call ?_)
      (with_reducible refine w_cons ?_)
      ((with_reducible refine' w_var ?hv ?_); (case hv => exact rfl))
      (with_reducible refine w_cons ?_)
      (with_reducible refine w_op ?_)
      ((with_reducible refine' w_var ?hv ?_); (case hv => exact rfl))
      ((with_reducible refine' w_var ?hv ?_); (case hv => exact rfl))
      have hlb := hin' _ (List.getElem_mem hi)
      refine w_ixL hf20 (atI_nat (v := .int fs[i]) (by rw [List.getElem?_map, List.getElem?_eq_getElem hi]; rfl)) ?_
      (with_reducible refine w_nil ?_)
      refine x_here (m := 1000) (Rch.refl I20.pt) (I20.tot (by omega) (by omega) (by omega)) (by omega) hlb.1 hlb.2 fun S21 H21 g21 R21 => ?_
      have I21 := I20.rch F R21
      have hf21 := keepF R21.fr I20.e1 I20.e3 I20.e4 hf20
      (with_reducible refine w_seq ?_)
      (with_reducible refine w_dput ?_)
      (with_reducible refine w_cb ?_)
      (with_reducible refine w_cons ?_)
      (with_reducible refine w_c ?_)
      (with_reducible refine w_cons ?_)
      ((with_reducible refine' w_var ?hv ?_); (case hv => exact rfl))
      (with_reducible refine w_nil ?_)
      refine ⟨4, left, rfl, ?_⟩
      ((with_reducible refine' w_var ?hv ?_); (case hv => exact rfl))
      (with_reducible refine w_c ?_)
      refine w_kDP I21.pt.hp (by show 6 < 1000; decide) rfl fun H22 hp22 b22 => ?_
      have I22 := I21.setlf F b22 hp22 (by split <;> omega)
      have hm4 : (if left < 4 then left else 4) ≤ 4 ∧ 0 ≤ (if left < 4 then left else 4) := by split <;> omega
      have hf22 := b22 _ _ fp hf21
      (with_reducible refine w_seq ?_)
      (with_reducible refine w_drop ?_)
      (with_reducible refine w_call ?_)
      (with_reducible refine w_cons ?_)
      ((with_reducible refine' w_var ?hv ?_); (case hv => exact rfl))
      (with_reducible refine w_cons ?_)
      (with_reducible refine w_c ?_)
      (with_reducible refine w_nil ?_)
      refine x_rows (Rch.refl I22.pt) (m := 1000) (I22.tot (by omega) (by omega) (by omega)) (by omega) (by omega) (by omega) (by decide) fun S23 H23 g23 R23 => ?_
      have I23 := I22.rch F R23
      have hf23 := keepF R23.fr I22.e1 I22.e3 I22.e4 hf22
      (with_reducible refine w_drop ?_)
      (with_reducible refine w_call ?_)
      (with_reducible refine w_cons ?_)
      ((with_reducible refine' w_var ?hv ?_); (case hv => exact rfl))
      (with_reducible refine w_cons ?_)
      (with_reducible refine w_tup ?_)
      (with_reducible refine w_cons ?_)
      (with_reducible refine w_c ?_)
      (with_reducible refine w_cons ?_)
      (with_reducible refine w_c ?_)
      (with_reducible refine w_cons ?_)
      (with_reducible refine w_c ?_)
      (with_reducible refine w_cons ?_)
      (with_reducible refine w_c ?_)
      (with_reducible refine w_nil ?_)
      refine w_kTup (by show 4 ≤ sizeLine; decide) fun t H24 nt s24 ht => ?_
      (with_reducible refine w_nil ?_)
      refine x_put (m := 1000) (Rch.refl (I23.sm s24).pt) (I23.tot (by omega) (by omega) (by omega)) (by omega) (rowIns (xs := [0, 15, 0]) 34 rfl (.dsi ⟨by decide, by decide⟩ ⟨by decide, by decide⟩) ht) fun S25 H25 g25 _ _ R25 => ?_
      have I25 := (I23.sm s24).rch F R25
      skip
      refine ⟨S25, _, { I25 with c6 := by have := I25.c6; omega, a6 := by have := I25.a6; omega, t6 := by have := I25.t6; omega }, Nat.le_trans hge (Nat.le_trans R21.cg (Nat.le_trans R23.cg R25.cg)), keepF R25.fr I23.e1 I23.e3 I23.e4 (s24 _ _ hf23), fun x hx => ?_, rfl⟩
      have := hin' x hx
      have h1 : S'.at_.length ≤ S21.at_.length := g21
      have h2 : S21.at_.length ≤ S23.at_.length := g23
      omega
    · obtain ⟨S18, u, I18, hge18, hf18, hin18, rfl⟩ := h
      have hfl2 : fs.length ≤ 2 := by omega
      have c18 := I18.c6
      have a18 := I18.a6
      have t18 := I18.t6
      have l18 := I18.pt.lf
      (with_reducible refine w_seq ?_)
      (with_reducible refine w_asg ?_)
      (with_reducible refine w_call ?_)
      (with_reducible refine w_cons ?_)
      ((with_reducible refine' w_var ?hv ?_); (case hv => exact rfl))
      (with_reducible refine w_nil ?_)
      refine ⟨p, S18, rfl, I18.pt, by omega, fun ws l H19 ews hws nl s19 hl19 => ?_⟩
      have I19 := I18.sm s19
      (with_reducible refine w_name ?_)
      (with_reducible refine w_seq ?_)
      (with_reducible refine w_asg ?_)
      (with_reducible refine w_op ?_)
      (with_reducible refine w_lc ?_)
      (with_reducible refine w_iL ?_)
      (with_reducible refine w_dget ?_)
      ((with_reducible refine' w_var ?hv ?_); (case hv => exact rfl))
      (with_reducible refine w_c ?_)
      refine w_kDG I19.pt.hp rfl ?_
      refine w_lcL (S18.tbl.map V.int) (fun D i H' => H19 D = none ∧ Same H19 H' ∧ ∃ vs : List Int, vs.length = i ∧ (∀ x ∈ vs, W32 x) ∧ H' D = some (.lst (vs.map V.int))) (.of I19.pt.htb) (fun D nD => ⟨nD, Same.new nD, [], rfl, (fun _ h => by cases h), upd_same⟩) (fun D i H' _ h => .of (h.2.1 _ _ I19.pt.htb)) (fun D i x H20 hx h => ?_) (fun D H20 nD h => ?_)
      · obtain ⟨nD, s20, vs, evs, hvs, hD⟩ := h
        obtain ⟨lb, hlb, ilb, rfl⟩ := map_get' hx
        have hbd := I18.pt.tls lb hlb
        have hi : i < S18.tbl.length := (List.getElem?_eq_some_iff.mp ilb).1
        (with_reducible refine w_name ?_)
        refine ⟨rfl, ?_⟩
        (with_reducible refine w_yes ?_)
        (with_reducible refine w_itT ?_)
        (with_reducible refine w_op ?_)
        ((with_reducible refine' w_var ?hv ?_); (case hv => exact rfl))
        (with_reducible refine w_op ?_)
        (with_reducible refine w_c ?_)
        (with_reducible refine w_op ?_)
        (with_reducible refine w_dget ?_)
        ((with_reducible refine' w_var ?hv ?_); (case hv => exact rfl))
        (with_reducible refine w_c ?_)
        refine w_kDG (s20 _ _ I19.pt.hp) rfl ?_
        ((with_reducible refine' w_var ?hv ?_); (case hv => exact rfl))
        obtain ⟨m, rfl⟩ := Int.eq_ofNat_of_zero_le hbd.1
        have hm : m < S18.at_.length := by omega
        have hav := I18.pt.ats _ (List.getElem_mem hm)
        refine w_ixL (s20 _ _ I19.pt.ha) (atI_nat (v := .int S18.at_[m]) (by rw [List.getElem?_map, List.getElem?_eq_getElem hm]; rfl)) ?_
        ((with_reducible refine w_I ?hc ?_); (case hc => walk_at "side"))
        (with_reducible refine w_I0 ?_)
        refine ⟨vs.map V.int, hD, by rw [List.length_map, evs]; exact Nat.lt_of_le_of_lt (show i ≤ 100000 by omega) (by decide), nD, fun y o hy => ?_, vs ++ [bs + 4 * S18.at_[m]], by rw [List.length_append, evs]; rfl, fun x hx => ?_, by rw [List.map_append]; exact upd_same⟩
        · rw [upd_ne (ne_of_none hy nD)]; exact s20 _ _ hy
        · rcases List.mem_append.mp hx with hx | hx
          · exact hvs x hx
          · rw [List.mem_singleton.mp hx]; rcases hbs with rfl | rfl | rfl | rfl <;> exact ⟨by omega, by omega⟩
      · obtain ⟨nD, s20, vs, evs, hvs, hD⟩ := h
        have I20 := I19.sm s20
        obtain ⟨⟨zs, hd18⟩, _⟩ := I18.hd.hdl
        have dD : D ≠ d := (ne_of_none (s19 _ _ hd18) nD).symm
        have dl : l ≠ d := (ne_of_none hd18 nl).symm
        (with_reducible refine w_lst ?_)
        (with_reducible refine w_cons ?_)
        ((with_reducible refine' w_var ?hv ?_); (case hv => exact rfl))
        (with_reducible refine w_cons ?_)
        (with_reducible refine w_c ?_)
        (with_reducible refine w_cons ?_)
        (with_reducible refine w_call ?_)
        (with_reducible refine w_cons ?_)
        ((with_reducible refine' w_var ?hv ?_); (case hv => exact rfl))
        (with_reducible refine w_cons ?_)
        (with_reducible refine w_op ?_)
        (with_reducible refine w_c ?_)
        (with_reducible refine w_c ?_)
        (with_reducible refine w_p32 ?_)
        (with_reducible refine w_nil ?_)
        refine w_take I20.hd (by decide) (by decide) fun r21 H21 r0' r1' hd21 b21 => ?_
        (with_reducible refine w_nil ?_)
        refine w_kLst (by show 3 ≤ sizeLine; decide) fun l22 H22 nl22 s22 hl22 => ?_
        have evs' : vs.length = S18.tbl.length := by rw [evs, List.length_map]
        refine w_cat' (xs := vs) (zs := [bs, 7, r21]) (s22 _ _ (b21 _ _ dD hD)) hl22 (by rw [evs']; show S18.tbl.length + 3 ≤ 100000; omega) fun tl H23 ntl s23 htl => ?_
        (with_reducible refine w_name ?_)
        (with_reducible refine w_seq ?_)
        (with_reducible refine w_asg ?_)
        (with_reducible refine w_lc ?_)
        (with_reducible refine w_rng1 ?_)
        (with_reducible refine w_cons ?_)
        (with_reducible refine w_c ?_)
        (with_reducible refine w_nil ?_)
        have hd23 := (hd21.same s22).same s23
        have hw23 : H23 l = some (.lst (ws.map V.int)) := s23 _ _ (s22 _ _ (b21 _ _ dl (s20 _ _ hl19)))
        have bt23 : But d H H23 := fun b o n e => s23 _ _ (s22 _ _ (b21 _ _ n (I20.bt b o n e)))
        obtain ⟨⟨zs3, hd23'⟩, _⟩ := hd23.hdl
        have hcc23 : ∃ ys, H23 cc = some (.lst ys) := by obtain ⟨cs, i, cur, seed, _, h, _⟩ := hd23; exact ⟨_, h⟩
        obtain ⟨ys3, hcc23⟩ := hcc23
        obtain ⟨⟨q1, q2⟩, _⟩ := hd21.hdl
        have tld : tl ≠ d := (ne_of_none (s22 _ _ q2) ntl).symm
        refine w_lcR 24 (fun D i H' => H23 D = none ∧ But d H23 H' ∧ DrawC H' d cc ∧ ∃ vs : List Int, vs.length = i ∧ (∀ x ∈ vs, B8 x) ∧ H' D = some (.lst (vs.map V.int))) rfl (by decide) (fun D nD => ⟨nD, fun b o n e => Same.new nD b o e, hd23.same (Same.new nD), [], rfl, (fun _ h => by cases h), upd_same⟩) (fun D i H24 hi h => ?_) (fun D2 H24 nD2 h => ?_)
        · obtain ⟨nD2, b24, hd24, us, eus, hus, hD2⟩ := h
          (with_reducible refine w_name ?_)
          refine ⟨rfl, ?_⟩
          (with_reducible refine w_yes ?_)
          (with_reducible refine w_itT ?_)
          (with_reducible refine w_call ?_)
          (with_reducible refine w_cons ?_)
          ((with_reducible refine' w_var ?hv ?_); (case hv => exact rfl))
          (with_reducible refine w_cons ?_)
          (with_reducible refine w_c ?_)
          (with_reducible refine w_nil ?_)
          have nd : D ≠ d := (ne_of_none hd23' nD2).symm
          refine w_take hd24 (by decide) (by decide) fun y H25 y0 y1 hd25 b25 => ?_
          refine ⟨us.map V.int, b25 _ _ nd hD2, by rw [List.length_map, eus]; exact Nat.lt_of_le_of_lt (show i ≤ 100000 by omega) (by decide), nD2, fun b o n e => ?_, hd25.keep (fun o e => ?_) (fun o e => ?_), us ++ [y], by rw [List.length_append, eus]; rfl, fun x hx => ?_, by rw [List.map_append]; exact upd_same⟩
          · rw [upd_ne (ne_of_none e nD2)]; exact b25 _ _ n (b24 _ _ n e)
          · rw [upd_ne nd.symm]; exact e
          · rw [upd_ne (ne_of_none hcc23 nD2)]; exact e
          · rcases List.mem_append.mp hx with hx | hx
            · exact hus x hx
            · rw [List.mem_singleton.mp hx]; exact ⟨y0, y1⟩
        · obtain ⟨_, b24, hd24, us, eus, hus, hD2⟩ := h
          have hw24 := b24 _ _ dl hw23
          have ht24 := b24 _ _ tld htl
          have bt24 : But d H H24 := fun b o n e => b24 _ _ n (bt23 b o n e)
          (with_reducible refine w_name ?_)
          (with_reducible refine w_seq ?_)
          (with_reducible refine w_asg ?_)
          (with_reducible refine w_tup ?_)
          (with_reducible refine w_cons ?_)
          (with_reducible refine w_tup ?_)
          (with_reducible refine w_cons ?_)
          ((with_reducible refine' w_var ?hv ?_); (case hv => exact rfl))
          (with_reducible refine w_cons ?_)
          (with_reducible refine w_call ?_)
          (with_reducible refine w_cons ?_)
          ((with_reducible refine' w_var ?hv ?_); (case hv => exact rfl))
          (with_reducible refine w_nil ?_)
          refine ⟨l, ws, rfl, hw24, by rw [ews]; omega, hws, fun x1 v1 H25 e1 hx1 nv1 s25 hv1 => ?_⟩
          (with_reducible refine w_cons ?_)
          (with_reducible refine w_c ?_)
          (with_reducible refine w_cons ?_)
          (with_reducible refine w_c ?_)
          (with_reducible refine w_nil ?_)
          refine w_kTup (by show 4 ≤ sizeLine; decide) fun g1 H26 ng1 s26 hg1 => ?_
          (with_reducible refine w_cons ?_)
          (with_reducible refine w_tup ?_)
          (with_reducible refine w_cons ?_)
          (with_reducible refine w_op ?_)
          ((with_reducible refine' w_var ?hv ?_); (case hv => exact rfl))
          (with_reducible refine w_c ?_)
          (with_reducible refine w_I0 ?_)
          (with_reducible refine w_cons ?_)
          (with_reducible refine w_cb ?_)
          (with_reducible refine w_cons ?_)
          ((with_reducible refine' w_var ?hv ?_); (case hv => exact rfl))
          (with_reducible refine w_nil ?_)
          refine w_tupL (.of (s26 _ _ (s25 _ _ hD2))) fun v2 H27 nv2 s27 hv2 => ?_
          (with_reducible refine w_cons ?_)
          (with_reducible refine w_c ?_)
          (with_reducible refine w_cons ?_)
          (with_reducible refine w_c ?_)
          (with_reducible refine w_nil ?_)
          refine w_kTup (by show 4 ≤ sizeLine; decide) fun g2 H28 ng2 s28 hg2 => ?_
          (with_reducible refine w_cons ?_)
          (with_reducible refine w_tup ?_)
          (with_reducible refine w_cons ?_)
          (with_reducible refine w_op ?_)
          ((with_reducible refine' w_var ?hv ?_); (case hv => exact rfl))
          (with_reducible refine w_c ?_)
          (with_reducible refine w_I0 ?_)
          (with_reducible refine w_cons ?_)
          (with_reducible refine w_call ?_)
          (with_reducible refine w_cons ?_)
          ((with_reducible refine' w_var ?hv ?_); (case hv => exact rfl))
          (with_reducible refine w_nil ?_)
          refine ⟨tl, vs ++ [bs, 7, r21], rfl, s28 _ _ (s27 _ _ (s26 _ _ (s25 _ _ ht24))), by rw [List.length_append, evs']; show S18.tbl.length + 3 ≤ 20000; omega, fun x hx => ?_, fun x3 v3 H29 e3 hx3 nv3 s29 hv3 => ?_⟩
          · rcases List.mem_append.mp hx with hx | hx
            · exact hvs x hx
            · simp only [List.mem_cons, List.not_mem_nil, or_false] at hx
              rcases hx with rfl | rfl | rfl
              · rcases hbs with rfl | rfl | rfl | rfl <;> exact ⟨by omega, by omega⟩
              · exact ⟨by decide, by decide⟩
              · exact ⟨r0', r1'⟩
          (with_reducible refine w_cons ?_)
          (with_reducible refine w_c ?_)
          (with_reducible refine w_cons ?_)
          (with_reducible refine w_c ?_)
          (with_reducible refine w_nil ?_)
          refine w_kTup (by show 4 ≤ sizeLine; decide) fun g3 H30 ng3 s30 hg3 => ?_
          (with_reducible refine w_nil ?_)
          refine w_kTup (by show 3 ≤ sizeLine; decide) fun sg H31 nsg s31 hsg => ?_
          (with_reducible refine w_name ?_)
          (with_reducible refine w_seq ?_)
          (with_reducible refine w_asg ?_)
          (with_reducible refine w_tup ?_)
          (with_reducible refine w_cons ?_)
          (with_reducible refine w_tup ?_)
          (with_reducible refine w_cons ?_)
          ((with_reducible refine' w_var ?hv ?_); (case hv => exact rfl))
          (with_reducible refine w_cons ?_)
          (with_reducible refine w_c ?_)
          (with_reducible refine w_nil ?_)
          refine w_kTup (by show 2 ≤ sizeLine; decide) fun y1 H32 ny1 s32 hy1 => ?_
          (with_reducible refine w_cons ?_)
          (with_reducible refine w_tup ?_)
          (with_reducible refine w_cons ?_)
          (with_reducible refine w_op ?_)
          ((with_reducible refine' w_var ?hv ?_); (case hv => exact rfl))
          (with_reducible refine w_c ?_)
          (with_reducible refine w_I0 ?_)
          (with_reducible refine w_cons ?_)
          (with_reducible refine w_c ?_)
          (with_reducible refine w_nil ?_)
          refine w_kTup (by show 2 ≤ sizeLine; decide) fun y2 H33 ny2 s33 hy2 => ?_
          (with_reducible refine w_cons ?_)
          (with_reducible refine w_tup ?_)
          (with_reducible refine w_cons ?_)
          (with_reducible refine w_op ?_)
          ((with_reducible refine' w_var ?hv ?_); (case hv => exact rfl))
          (with_reducible refine w_c ?_)
          (with_reducible refine w_I0 ?_)
          (with_reducible refine w_cons ?_)
          (with_reducible refine w_c ?_)
          (with_reducible refine w_nil ?_)
          refine w_kTup (by show 2 ≤ sizeLine; decide) fun y3 H34 ny3 s34 hy3 => ?_
          (with_reducible refine w_nil ?_)
          refine w_kTup (by show 3 ≤ sizeLine; decide) fun sy H35 nsy s35 hsy => ?_
          (with_reducible refine w_name ?_)
          (with_reducible refine w_ret ?_)
          (with_reducible refine w_tup ?_)
          (with_reducible refine w_cons ?_)
          ((with_reducible refine' w_var ?hv ?_); (case hv => exact rfl))
          (with_reducible refine w_cons ?_)
          ((with_reducible refine' w_var ?hv ?_); (case hv => exact rfl))
          (with_reducible refine w_cons ?_)
          ((with_reducible refine' w_var ?hv ?_); (case hv => exact rfl))
          (with_reducible refine w_nil ?_)
          refine w_kTup (by show 3 ≤ sizeLine; decide) fun t H36 nt s36 ht => ?_
          have z35 := s35.trans s36
          have z34 := s34.trans z35
          have z33 := s33.trans z34
          have z32 := s32.trans z33
          have z31 := s31.trans z32
          have z30 := s30.trans z31
          have z29 := s29.trans z30
          have z28 := s28.trans z29
          have z27 := s27.trans z28
          have z26 := s26.trans z27
          have z25 := s25.trans z26
          refine q t bs x1 us x3 H36 ⟨sg, sy, g1, g2, g3, v1, v2, v3, y1, y2, y3, ht, z32 _ _ hsg, z27 _ _ hg1, z26 _ _ hv1, z29 _ _ hg2, z28 _ _ hv2, z31 _ _ hg3, z30 _ _ hv3, s36 _ _ hsy, z33 _ _ hy1, z34 _ _ hy2, z35 _ _ hy3⟩ ⟨hbs, ⟨ws.length, e1, by rw [ews]; exact hge18, by rw [ews]; omega⟩, eus, ⟨(vs ++ [bs, 7, r21]).length, e3, by rw [List.length_append]; show 3 ≤ vs.length + 3; omega, ?_⟩, hx1, hus, hx3⟩ (hd24.same z25) (fun b o n e => z25 _ _ (bt24 b o n e))
          rw [List.length_append, evs']; show ((S18.tbl.length + 3 : Nat) : Int) ≤ _; omega
end
end K06

namespace K06
local macro_rules | `(tactic| walk_at "w1") => `(tactic| first
  | (with_reducible refine w_iEnT ?_))
theorem sc_find_segment : FnScope ["image", "address", "count", "index", "segment", "first"] ["image", "address", "count"] (defScope s_find_segment) := ⟨rfl, rfl, rfl, by decide +kernel, rfl, by decide +kernel, by decide +kernel⟩
/-- a segment laid down -/
structure Sg where
  a : Addr
  v : Addr
  lo : Int
  bs : List Int
  wr : Bool
  ex : Bool
structure SegAt (H : Hp) (g : Sg) : Prop where
  ha : H g.a = some (.tup [.int g.lo, .ref g.v, .bl g.wr, .bl g.ex])
  hv : H g.v = some (.tup (g.bs.map V.int))
structure ImAt (H : Hp) (im sg : Addr) (gs : List Sg) : Prop where
  hi : ∃ b sy, H im = some (.tup [.ref sg, b, sy])
  hs : H sg = some (.tup (gs.map fun g => V.ref g.a))
  hg : ∀ g ∈ gs, SegAt H g
theorem SegAt.same {H H' : Hp} {g : Sg} (h : SegAt H g) (s : Same H H') : SegAt H' g := ⟨s _ _ h.ha, s _ _ h.hv⟩
theorem ImAt.same {H H' : Hp} {im sg : Addr} {gs : List Sg} (h : ImAt H im sg gs) (s : Same H H') : ImAt H' im sg gs := ⟨by obtain ⟨b, sy, e⟩ := h.hi; exact ⟨b, sy, s _ _ e⟩, s _ _ h.hs, fun g hg => (h.hg g hg).same s⟩
def Fit (g : Sg) (ad c : Int) : Prop := g.lo ≤ ad ∧ ad + c ≤ g.lo + g.bs.length
/-- the first segment that holds them -/
def FindR (gs : List Sg) (ad c r : Int) : Prop := (r = -1 ∧ ∀ g ∈ gs, ¬ Fit g ad c) ∨ ∃ (n : Nat) (g : Sg), r = n ∧ gs[n]? = some g ∧ Fit g ad c ∧ ∀ m g', m < n → gs[m]? = some g' → ¬ Fit g' ad c
def spFind : Sp := fun vs H Q _ => ∃ (im sg : Addr) (gs : List Sg) (ad c : Int), vs = [.ref im, .int ad, .int c] ∧ ImAt H im sg gs ∧ ∀ r H', FindR gs ad c r → Same H H' → Q (.int r) H'
section
variable {P : Program} {w : World} {K : PySem.W.Frag} {mg : Str → Option Value} {base : Heap}
theorem ok_find_segment (b_len : mg "len" = none) (b_enumerate : mg "enumerate" = none) (Z : St1 K mg "find_segment" s_find_segment ["image", "address", "count"]) : Cd P w K mg base 1 "find_segment" spFind := by
  refine Z.cd sc_find_segment (fun vs H Q E h => by obtain ⟨im, sg, gs, ad, c, rfl, _⟩ := h; rfl) (fun f cdv A outer s H vs Q E hr h => ?_)
  obtain ⟨im, sg, gs, ad, c, rfl, hI, q⟩ := h
  refine ⟨_, (pss_cons (ps_for PassesOwn.never rfl (pi_enumT (by rfl) b_enumerate (pa_cons (pe_ix ix_tup (pv 0) pe_int (fun _ _ => rfl)) pa_nil)) (pg_tup rfl (pgs_cons (pg_name (i := 3) sc_find_segment.nd rfl (.inl rfl)) (pgs_cons (pg_name (i := 4) sc_find_segment.nd rfl (.inl rfl)) pgs_nil)))
      (pss_cons (ps_set (i := 5) sc_find_segment.nd rfl (.inl rfl) (pe_ix ix_tup (pv 4) pe_int (fun _ _ => rfl)))
      (pss_one (ps_if (PW.pt (pw_and (pt_cmpR op_le (pv 5) (pv 1) (nomark _)) (pw_and1 (pt_cmpR op_le (pe_op op_add (pv 1) (pv 2)) (pe_op op_add (pv 5) (pe_callB call_lenQ (by rfl) b_len PySem.boot_len (pa_cons (pe_ix ix_tup (pv 4) pe_int (fun _ _ => rfl)) pa_nil))) (nomark _))))) (pss_one (ps_ret (pv 3))) pss_nil))))
      (pss_one (ps_ret (pe_un un_neg pe_int)))), ?_⟩
  (with_reducible refine w_seq ?_)
  (with_reducible refine w_for ?_)
  (with_reducible refine w_iEnT ?_)
  (with_reducible refine w_cons ?_)
  (with_reducible refine w_op ?_)
  ((with_reducible refine' w_var ?hv ?_); (case hv => exact rfl))
  (with_reducible refine w_c ?_)
  obtain ⟨b, sy, hi⟩ := hI.hi
  refine w_ixT hi (atI_of (v := .ref sg) (by decide) rfl) ?_
  (with_reducible refine w_nil ?_)
  refine w_forE (gs.map fun g => V.ref g.a) (fun i σ H' => Same H H' ∧ (∀ m g', m < i → gs[m]? = some g' → ¬ Fit g' ad c) ∧ ∃ x y z : Option V, σ = [some (.ref im), some (.int ad), some (.int c), x, y, z]) (.inl (.inl hI.hs)) ⟨fun _ _ e => e, fun m g' h => absurd h (Nat.not_lt_zero _), _, _, _, rfl⟩ (fun i σ H' h => .inl (.inl (h.1 _ _ hI.hs))) (fun i x σ H1 t H2 hx h nt s2 ht => ?_) (fun σ H1 h => ?_)
  · obtain ⟨s1, no, x1, y1, z1, rfl⟩ := h
    rw [List.getElem?_map] at hx
    obtain ⟨g, eg, rfl⟩ := Option.map_eq_some_iff.mp hx
    have G := (hI.hg g (List.mem_of_getElem? eg)).same (s1.trans s2)
    have ga := G.ha
    have gv := G.hv
    ((with_reducible refine' w_gTup ?hh ?hn ?_); (case hh => assumption); (case hn => exact rfl))
    (with_reducible refine w_gCons ?_)
    (with_reducible refine w_name ?_)
    (with_reducible refine w_gCons ?_)
    (with_reducible refine w_name ?_)
    (with_reducible refine w_gNil ?_)
    (with_reducible refine w_seq ?_)
    (with_reducible refine w_asg ?_)
    (with_reducible refine w_op ?_)
    ((with_reducible refine' w_var ?hv ?_); (case hv => exact rfl))
    (with_reducible refine w_c ?_)
    ((with_reducible refine' w_ixT ?hh ?ha ?_); (case hh => assumption); (case ha => exact rfl))
    (with_reducible refine w_name ?_)
    (with_reducible refine w_ifS ?_)
    (with_reducible refine w_andT ?_)
    (with_reducible refine w_test ?_)
    (with_reducible refine w_op ?_)
    ((with_reducible refine' w_var ?hv ?_); (case hv => exact rfl))
    ((with_reducible refine' w_var ?hv ?_); (case hv => exact rfl))
    (with_reducible refine w_I0 ?_)
    (with_reducible refine w_bl ?_)
    have nofit : ¬ Fit g ad c → ∀ m g', m < i + 1 → gs[m]? = some g' → ¬ Fit g' ad c := fun hn m g' hm e => by
      rcases Nat.lt_succ_iff_lt_or_eq.mp hm with z | z
      · exact no m g' z e
      · subst z; rw [eg] at e; cases e; exact hn
    refine w_dec (fun e1 => ?_) (fun e1 => ?_)
    · (with_reducible refine w_test ?_)
      (with_reducible refine w_op ?_)
      (with_reducible refine w_op ?_)
      ((with_reducible refine' w_var ?hv ?_); (case hv => exact rfl))
      ((with_reducible refine' w_var ?hv ?_); (case hv => exact rfl))
      (with_reducible refine w_I0 ?_)
      (with_reducible refine w_op ?_)
      ((with_reducible refine' w_var ?hv ?_); (case hv => exact rfl))
      (with_reducible refine w_cb ?_)
      (with_reducible refine w_cons ?_)
      (with_reducible refine w_op ?_)
      ((with_reducible refine' w_var ?hv ?_); (case hv => exact rfl))
      (with_reducible refine w_c ?_)
      ((with_reducible refine' w_ixT ?hh ?ha ?_); (case hh => assumption); (case ha => exact rfl))
      (with_reducible refine w_nil ?_)
      refine w_lenT gv ?_
      (with_reducible refine w_I0 ?_)
      (with_reducible refine w_I0 ?_)
      (with_reducible refine w_bl ?_)
      refine w_dec (fun e2 => ?_) (fun e2 => ?_)
      · (with_reducible refine w_ret ?_)
        ((with_reducible refine' w_var ?hv ?_); (case hv => exact rfl))
        exact q _ _ (.inr ⟨i, g, rfl, eg, ⟨e1, by rw [List.length_map] at e2; exact e2⟩, no⟩) (s1.trans s2)
      · (with_reducible refine w_next ?_)
        exact ⟨s1.trans s2, nofit fun h => e2 (by rw [List.length_map]; exact h.2), _, _, _, rfl⟩
    · (with_reducible refine w_itF ?_)
      (with_reducible refine w_next ?_)
      exact ⟨s1.trans s2, nofit fun h => e1 h.1, _, _, _, rfl⟩
  · obtain ⟨s1, no, x1, y1, z1, rfl⟩ := h
    (with_reducible refine w_ret ?_)
    (with_reducible refine w_un ?_)
    (with_reducible refine w_c ?_)
    (with_reducible refine w_U ?_)
    refine q _ _ (.inl ⟨rfl, fun g hg => ?_⟩) s1
    obtain ⟨n, hn, e⟩ := List.getElem_of_mem hg
    exact no n g (by rw [List.length_map]; exact hn) (by rw [List.getElem?_eq_getElem hn, e])
end
end K06

namespace K06
theorem sc_can_load : FnScope ["image", "address", "count"] ["image", "address", "count"] (defScope s_can_load) := ⟨rfl, rfl, rfl, by decide +kernel, rfl, by decide +kernel, by decide +kernel⟩
theorem sc_can_fetch : FnScope ["image", "address"] ["image", "address"] (defScope s_can_fetch) := ⟨rfl, rfl, rfl, by decide +kernel, rfl, by decide +kernel, by decide +kernel⟩
/-- whether they may be read -/
def CanR (gs : List Sg) (ad c : Int) (b : Bool) : Prop := (c = 4 ∧ ad % 4 ≠ 0 ∧ b = false) ∨ (¬ (c = 4 ∧ ad % 4 ≠ 0) ∧ ∃ r, FindR gs ad c r ∧ b = !decide (r = -1))
def spCanL : Sp := fun vs H Q _ => ∃ (im sg : Addr) (gs : List Sg) (ad c : Int), vs = [.ref im, .int ad, .int c] ∧ ImAt H im sg gs ∧ 0 ≤ ad ∧ ∀ b H', CanR gs ad c b → Same H H' → Q (.bl b) H'
theorem and3 {x : Int} (h : 0 ≤ x) : Builtin.bitAnd x 3 = x % 4 := by
  obtain ⟨n, rfl⟩ := Int.eq_ofNat_of_zero_le h
  show ((n &&& 3 : Nat) : Int) = _
  rw [show n &&& 3 = n % 4 from Nat.and_two_pow_sub_one_eq_mod n 2]
  rfl
section
variable {P : Program} {w : World} {K : PySem.W.Frag} {mg : Str → Option Value} {base : Heap}
theorem ok_can_load (c_find_segment : Cd P w K mg base 1 "find_segment" spFind) (Z : St1 K mg "can_load" s_can_load ["image", "address", "count"]) : Cd P w K mg base 2 "can_load" spCanL := by
  refine Z.cd sc_can_load (fun vs H Q E h => by obtain ⟨im, sg, gs, ad, c, rfl, _⟩ := h; rfl) (fun f cdv A outer s H vs Q E hr h => ?_)
  obtain ⟨im, sg, gs, ad, c, rfl, hI, h0, q⟩ := h
  refine ⟨_, (pss_cons (ps_if (PW.pt (pw_and (pt_cmpR op_eq (pv 2) pe_int (nomark _)) (pw_and1 (pt_cmpR op_ne (pe_op op_and (pv 1) pe_int) pe_int (nomark _))))) (pss_one (ps_ret pe_bl)) pss_nil)
      (pss_one (ps_ret (pe_cmpR op_ne (pe_cd c_find_segment hr (by first | decide | omega) (by rfl) (pa_cons (pv 0) (pa_cons (pv 1) (pa_cons (pv 2) pa_nil)))) (pe_un un_neg pe_int) (nomark _))))), ?_⟩
  (with_reducible refine w_seq ?_)
  (with_reducible refine w_ifS ?_)
  (with_reducible refine w_andT ?_)
  (with_reducible refine w_test ?_)
  (with_reducible refine w_op ?_)
  ((with_reducible refine' w_var ?hv ?_); (case hv => exact rfl))
  (with_reducible refine w_c ?_)
  (with_reducible refine w_eqI ?_)
  (with_reducible refine w_bl ?_)
  refine w_dec (fun e1 => ?_) (fun e1 => ?_)
  · (with_reducible refine w_test ?_)
    (with_reducible refine w_op ?_)
    (with_reducible refine w_op ?_)
    ((with_reducible refine' w_var ?hv ?_); (case hv => exact rfl))
    (with_reducible refine w_c ?_)
    (with_reducible refine w_I0 ?_)
    (with_reducible refine w_c ?_)
    (with_reducible refine w_neI ?_)
    (with_reducible refine w_bl ?_)
    refine w_ndec (fun e2 => ?_) (fun e2 => ?_)
    · (with_reducible refine w_ret ?_)
      (with_reducible refine w_c ?_)
      exact q _ H (.inl ⟨e1, by rw [and3 h0] at e2; exact e2, rfl⟩) (fun _ _ e => e)
    · (with_reducible refine w_next ?_)
      (with_reducible refine w_ret ?_)
      (with_reducible refine w_op ?_)
      (with_reducible refine w_call ?_)
      (with_reducible refine w_cons ?_)
      ((with_reducible refine' w_var ?hv ?_); (case hv => exact rfl))
      (with_reducible refine w_cons ?_)
      ((with_reducible refine' w_var ?hv ?_); (case hv => exact rfl))
      (with_reducible refine w_cons ?_)
      ((with_reducible refine' w_var ?hv ?_); (case hv => exact rfl))
      (with_reducible refine w_nil ?_)
      refine ⟨im, sg, gs, ad, c, rfl, hI, fun r H1 hr s1 => ?_⟩
      (with_reducible refine w_un ?_)
      (with_reducible refine w_c ?_)
      (with_reducible refine w_U ?_)
      (with_reducible refine w_neI ?_)
      exact q _ H1 (.inr ⟨fun z => z.2 (by rw [and3 h0] at e2; exact e2), r, hr, rfl⟩) s1
  · (with_reducible refine w_itF ?_)
    (with_reducible refine w_next ?_)
    (with_reducible refine w_ret ?_)
    (with_reducible refine w_op ?_)
    (with_reducible refine w_call ?_)
    (with_reducible refine w_cons ?_)
    ((with_reducible refine' w_var ?hv ?_); (case hv => exact rfl))
    (with_reducible refine w_cons ?_)
    ((with_reducible refine' w_var ?hv ?_); (case hv => exact rfl))
    (with_reducible refine w_cons ?_)
    ((with_reducible refine' w_var ?hv ?_); (case hv => exact rfl))
    (with_reducible refine w_nil ?_)
    refine ⟨im, sg, gs, ad, c, rfl, hI, fun r H1 hr s1 => ?_⟩
    (with_reducible refine w_un ?_)
    (with_reducible refine w_c ?_)
    (with_reducible refine w_U ?_)
    (with_reducible refine w_neI ?_)
    exact q _ H1 (.inr ⟨fun z => e1 z.1, r, hr, rfl⟩) s1
/-- whether they may be, and the segment's own word on it -/
def RightR (fl : Sg → Bool) (gs : List Sg) (ad c : Int) (b : Bool) : Prop := (CanR gs ad c false ∧ b = false) ∨ (CanR gs ad c true ∧ ∃ (n : Nat) (g : Sg), FindR gs ad c n ∧ gs[n]? = some g ∧ b = fl g)
theorem FindR.uniq {gs : List Sg} {ad c r r' : Int} (h : FindR gs ad c r) (h' : FindR gs ad c r') : r = r' := by
  rcases h with ⟨rfl, n⟩ | ⟨m, g, rfl, e, f, n⟩ <;> rcases h' with ⟨rfl, n'⟩ | ⟨m', g', rfl, e', f', n'⟩
  · rfl
  · exact absurd f' (n _ (List.mem_of_getElem? e'))
  · exact absurd f (n' _ (List.mem_of_getElem? e))
  · rcases Nat.lt_trichotomy m m' with z | z | z
    · exact absurd f (n' m g z e)
    · rw [z]
    · exact absurd f' (n m' g' z e')
theorem CanR.found {gs : List Sg} {ad c : Int} (h : CanR gs ad c true) : ∃ (n : Nat) (g : Sg), FindR gs ad c n ∧ gs[n]? = some g ∧ Fit g ad c := by
  rcases h with ⟨_, _, z⟩ | ⟨_, r, hr, z⟩
  · cases z
  · rcases id hr with ⟨rfl, _⟩ | ⟨n, g, rfl, e, f, _⟩
    · simp at z
    · exact ⟨n, g, hr, e, f⟩
def spRight (fl : Sg → Bool) : Sp := fun vs H Q _ => ∃ (im sg : Addr) (gs : List Sg) (ad c : Int), vs = [.ref im, .int ad, .int c] ∧ ImAt H im sg gs ∧ 0 ≤ ad ∧ ∀ b H', RightR fl gs ad c b → Same H H' → Q (.bl b) H'
def spRight4 (fl : Sg → Bool) : Sp := fun vs H Q _ => ∃ (im sg : Addr) (gs : List Sg) (ad : Int), vs = [.ref im, .int ad] ∧ ImAt H im sg gs ∧ 0 ≤ ad ∧ ∀ b H', RightR fl gs ad 4 b → Same H H' → Q (.bl b) H'
theorem ok_can_fetch (c_find_segment : Cd P w K mg base 1 "find_segment" spFind) (c_can_load : Cd P w K mg base 2 "can_load" spCanL) (Z : St1 K mg "can_fetch" s_can_fetch ["image", "address"]) : Cd P w K mg base 3 "can_fetch" (spRight4 Sg.ex) := by
  refine Z.cd sc_can_fetch (fun vs H Q E h => by obtain ⟨im, sg, gs, ad, rfl, _⟩ := h; rfl) (fun f cdv A outer s H vs Q E hr h => ?_)
  obtain ⟨im, sg, gs, ad, rfl, hI, h0, q⟩ := h
  refine ⟨_, (pss_cons (ps_if (pt_not (pt_val (pe_cd c_can_load hr (by first | decide | omega) (by rfl) (pa_cons (pv 0) (pa_cons (pv 1) (pa_cons pe_int pa_nil)))))) (pss_one (ps_ret pe_bl)) pss_nil)
      (pss_one (ps_ret (pe_ix ix_tup (pe_ix ix_tup (pe_ix ix_tup (pv 0) pe_int (fun _ _ => rfl)) (pe_cd c_find_segment hr (by first | decide | omega) (by rfl) (pa_cons (pv 0) (pa_cons (pv 1) (pa_cons pe_int pa_nil)))) (fun _ _ => rfl)) pe_int (fun _ _ => rfl))))), ?_⟩
  (with_reducible refine w_seq ?_)
  (with_reducible refine w_ifS ?_)
  (with_reducible refine w_notT ?_)
  (with_reducible refine w_B ?_)
  (with_reducible refine w_call ?_)
  (with_reducible refine w_cons ?_)
  ((with_reducible refine' w_var ?hv ?_); (case hv => exact rfl))
  (with_reducible refine w_cons ?_)
  ((with_reducible refine' w_var ?hv ?_); (case hv => exact rfl))
  (with_reducible refine w_cons ?_)
  (with_reducible refine w_c ?_)
  (with_reducible refine w_nil ?_)
  refine ⟨im, sg, gs, ad, 4, rfl, hI, h0, fun b H1 hb s1 => ?_⟩
  (with_reducible refine w_bl ?_)
  cases b with
  | false => exact w_nF (w_ret (w_c (q _ H1 (.inl ⟨hb, rfl⟩) s1)))
  | true =>
    (with_reducible refine w_nT ?_)
    (with_reducible refine w_next ?_)
    (with_reducible refine w_ret ?_)
    (with_reducible refine w_op ?_)
    (with_reducible refine w_op ?_)
    (with_reducible refine w_op ?_)
    ((with_reducible refine' w_var ?hv ?_); (case hv => exact rfl))
    (with_reducible refine w_c ?_)
    have hI1 := hI.same s1
    obtain ⟨b, sy, hi⟩ := hI1.hi
    refine w_ixT hi (atI_of (v := .ref sg) (by decide) rfl) ?_
    (with_reducible refine w_call ?_)
    (with_reducible refine w_cons ?_)
    ((with_reducible refine' w_var ?hv ?_); (case hv => exact rfl))
    (with_reducible refine w_cons ?_)
    ((with_reducible refine' w_var ?hv ?_); (case hv => exact rfl))
    (with_reducible refine w_cons ?_)
    (with_reducible refine w_c ?_)
    (with_reducible refine w_nil ?_)
    refine ⟨im, sg, gs, ad, 4, rfl, hI1, fun r H2 hr s2 => ?_⟩
    obtain ⟨n, g, hn, eg, _⟩ := hb.found
    have er := hr.uniq hn
    subst er
    refine w_ixT (s2 _ _ hI1.hs) (atI_nat (v := .ref g.a) (by rw [List.getElem?_map, eg]; rfl)) ?_
    (with_reducible refine w_c ?_)
    have ga := ((hI1.same s2).hg g (List.mem_of_getElem? eg)).ha
    refine w_ixT ga (atI_of (v := .bl g.ex) (by decide) rfl) ?_
    exact q _ H2 (.inr ⟨hb, n, g, hn, eg, rfl⟩) (s1.trans s2)
end
end K06

namespace K06
theorem sc_load_word : FnScope ["image", "memory", "address", "count", "index", "offset", "values", "value", "k"] ["image", "memory", "address", "count"] (defScope s_load_word) := ⟨rfl, rfl, rfl, by decide +kernel, rfl, by decide +kernel, by decide +kernel⟩
/-- a row of memory laid down -/
def MemAt (H : Hp) (mem : Addr) (rows : List (Addr × List Int)) : Prop := H mem = some (.tup (rows.map fun r => V.ref r.1)) ∧ ∀ r ∈ rows, H r.1 = some (.tup (r.2.map V.int))
theorem MemAt.same {H H' : Hp} {mem : Addr} {rows : List (Addr × List Int)} (h : MemAt H mem rows) (s : Same H H') : MemAt H' mem rows := ⟨s _ _ h.1, fun r hr => s _ _ (h.2 r hr)⟩
/-- the first k bytes from off on, the least first -/
def leS (bs : List Int) (off : Nat) : Nat → Int
  | 0 => 0
  | k + 1 => leS bs off k + bs.getD (off + k) 0 * 2 ^ (8 * k)
def spLoad : Sp := fun vs H Q _ => ∃ (im sg mem : Addr) (gs : List Sg) (rows : List (Addr × List Int)) (ad : Int) (c : Nat) (n : Nat) (g : Sg) (r : Addr × List Int), vs = [.ref im, .ref mem, .int ad, .int (c : Nat)] ∧ ImAt H im sg gs ∧ MemAt H mem rows ∧ FindR gs ad c n ∧ gs[n]? = some g ∧ rows[n]? = some r ∧ r.2.length = g.bs.length ∧ (∀ x ∈ r.2, B8 x) ∧ c ≤ 4 ∧ ∀ H', Same H H' → Q (.int (leS r.2 (ad - g.lo).toNat c)) H'
section
variable {P : Program} {w : World} {K : PySem.W.Frag} {mg : Str → Option Value} {base : Heap}
theorem ok_load_word (b_range : mg "range" = none) (c_find_segment : Cd P w K mg base 1 "find_segment" spFind) (Z : St1 K mg "load_word" s_load_word ["image", "memory", "address", "count"]) : Cd P w K mg base 2 "load_word" spLoad := by
  refine Z.cd sc_load_word (fun vs H Q E h => by obtain ⟨im, sg, mem, gs, rows, ad, c, n, g, r, rfl, _⟩ := h; rfl) (fun f cdv A outer s H vs Q E hr h => ?_)
  obtain ⟨im, sg, mem, gs, rows, ad, c, n, g, r, rfl, hI, hM, hf, eg, er, el, hb, hc, q⟩ := h
  have hfit : Fit g ad c := by
    rcases hf with ⟨z, _⟩ | ⟨m, g', z, e, f, _⟩
    · omega
    · have : n = m := by omega
      subst this; rw [eg] at e; cases e; exact f
  refine ⟨_, (pss_cons (ps_set (i := 4) sc_load_word.nd rfl (.inl rfl) (pe_cd c_find_segment hr (by first | decide | omega) (by rfl) (pa_cons (pv 0) (pa_cons (pv 2) (pa_cons (pv 3) pa_nil)))))
      (pss_cons (ps_set (i := 5) sc_load_word.nd rfl (.inl rfl) (pe_op op_sub (pv 2) (pe_ix ix_tup (pe_ix ix_tup (pe_ix ix_tup (pv 0) pe_int (fun _ _ => rfl)) (pv 4) (fun _ _ => rfl)) pe_int (fun _ _ => rfl))))
      (pss_cons (ps_set (i := 6) sc_load_word.nd rfl (.inl rfl) (pe_ix ix_tup (pv 1) (pv 4) (fun _ _ => rfl)))
      (pss_cons (ps_set (i := 7) sc_load_word.nd rfl (.inl rfl) pe_int)
      (pss_cons (ps_for PassesOwn.never rfl (pi_range1 (by rfl) b_range (pa_cons (pv 3) pa_nil)) (pg_name (i := 8) sc_load_word.nd rfl (.inl rfl))
      (pss_one (ps_aug (i := 7) sc_load_word.nd rfl (.inl rfl) (pe_op op_shl (pe_ix ix_tup (pv 6) (pe_op op_add (pv 5) (pv 8)) (fun _ _ => rfl)) (pe_op op_mul pe_int (pv 8))) ip_add)))
      (pss_one (ps_ret (pv 7)))))))), ?_⟩
  (with_reducible refine w_seq ?_)
  (with_reducible refine w_asg ?_)
  (with_reducible refine w_call ?_)
  (with_reducible refine w_cons ?_)
  ((with_reducible refine' w_var ?hv ?_); (case hv => exact rfl))
  (with_reducible refine w_cons ?_)
  ((with_reducible refine' w_var ?hv ?_); (case hv => exact rfl))
  (with_reducible refine w_cons ?_)
  ((with_reducible refine' w_var ?hv ?_); (case hv => exact rfl))
  (with_reducible refine w_nil ?_)
  refine ⟨im, sg, gs, ad, c, rfl, hI, fun r' H1 hr' s1 => ?_⟩
  have := hr'.uniq hf
  subst this
  have hI1 := hI.same s1
  obtain ⟨b, sy, hi⟩ := hI1.hi
  (with_reducible refine w_name ?_)
  (with_reducible refine w_seq ?_)
  (with_reducible refine w_asg ?_)
  (with_reducible refine w_op ?_)
  ((with_reducible refine' w_var ?hv ?_); (case hv => exact rfl))
  (with_reducible refine w_op ?_)
  (with_reducible refine w_op ?_)
  (with_reducible refine w_op ?_)
  ((with_reducible refine' w_var ?hv ?_); (case hv => exact rfl))
  (with_reducible refine w_c ?_)
  ((with_reducible refine' w_ixT ?hh ?ha ?_); (case hh => assumption); (case ha => exact rfl))
  ((with_reducible refine' w_var ?hv ?_); (case hv => exact rfl))
  refine w_ixT hI1.hs (atI_nat (v := .ref g.a) (by rw [List.getElem?_map, eg]; rfl)) ?_
  (with_reducible refine w_c ?_)
  have ga := (hI1.hg g (List.mem_of_getElem? eg)).ha
  refine w_ixT ga (atI_of (v := .int g.lo) (by decide) rfl) ?_
  (with_reducible refine w_I0 ?_)
  (with_reducible refine w_name ?_)
  (with_reducible refine w_seq ?_)
  (with_reducible refine w_asg ?_)
  (with_reducible refine w_op ?_)
  ((with_reducible refine' w_var ?hv ?_); (case hv => exact rfl))
  ((with_reducible refine' w_var ?hv ?_); (case hv => exact rfl))
  refine w_ixT (s1 _ _ hM.1) (atI_nat (v := .ref r.1) (by rw [List.getElem?_map, er]; rfl)) ?_
  (with_reducible refine w_name ?_)
  (with_reducible refine w_seq ?_)
  (with_reducible refine w_asg ?_)
  (with_reducible refine w_c ?_)
  (with_reducible refine w_name ?_)
  (with_reducible refine w_seq ?_)
  (with_reducible refine w_for ?_)
  (with_reducible refine w_rng1 ?_)
  (with_reducible refine w_cons ?_)
  ((with_reducible refine' w_var ?hv ?_); (case hv => exact rfl))
  (with_reducible refine w_nil ?_)
  have hr1 := s1 _ _ (hM.2 r (List.mem_of_getElem? er))
  refine w_forR c (fun i σ H' => H' = H1 ∧ ∃ u, σ = [some (.ref im), some (.ref mem), some (.int ad), some (.int (c : Nat)), some (.int (n : Nat)), some (.int (ad - g.lo)), some (.ref r.1), some (.int (leS r.2 (ad - g.lo).toNat i)), u]) (by simp) (by omega) ⟨rfl, _, rfl⟩ (fun i σ H2 hi h => ?_) (fun σ H2 h => ?_)
  · obtain ⟨rfl, u, rfl⟩ := h
    (with_reducible refine w_name ?_)
    ((with_reducible refine' w_aug ?hh ?_); (case hh => exact rfl))
    (with_reducible refine w_op ?_)
    (with_reducible refine w_op ?_)
    ((with_reducible refine' w_var ?hv ?_); (case hv => exact rfl))
    (with_reducible refine w_op ?_)
    ((with_reducible refine' w_var ?hv ?_); (case hv => exact rfl))
    ((with_reducible refine' w_var ?hv ?_); (case hv => exact rfl))
    (with_reducible refine w_I0 ?_)
    have hk : (ad - g.lo).toNat + i < r.2.length := by unfold Fit at hfit; omega
    have ei : ad - g.lo + (i : Int) = (((ad - g.lo).toNat + i : Nat) : Int) := by unfold Fit at hfit; omega
    rw [ei]
    refine w_ixT hr1 (atI_nat (v := .int (r.2[(ad - g.lo).toNat + i])) (by rw [List.getElem?_map, List.getElem?_eq_getElem hk]; rfl)) ?_
    (with_reducible refine w_op ?_)
    (with_reducible refine w_c ?_)
    ((with_reducible refine' w_var ?hv ?_); (case hv => exact rfl))
    ((with_reducible refine w_I ?hc ?_); (case hc => walk_at "side"))
    have hv := hb _ (List.getElem_mem hk)
    unfold B8 at hv
    refine w_I (by unfold CPow; omega) ?_
    (with_reducible refine w_ipI ?_)
    have ev : leS r.2 (ad - g.lo).toNat i + r.2[(ad - g.lo).toNat + i] * 2 ^ (8 * (i : Int)).toNat = leS r.2 (ad - g.lo).toNat (i + 1) := by
      show _ = leS r.2 (ad - g.lo).toNat i + r.2.getD ((ad - g.lo).toNat + i) 0 * 2 ^ (8 * i)
      rw [show (8 * (i : Int)).toNat = 8 * i by omega, List.getD_eq_getElem?_getD, List.getElem?_eq_getElem hk]
      rfl
    rw [ev]
    exact ⟨rfl, _, rfl⟩
  · obtain ⟨rfl, u, rfl⟩ := h
    (with_reducible refine w_ret ?_)
    ((with_reducible refine' w_var ?hv ?_); (case hv => exact rfl))
    exact q _ s1
/-- k bytes of a value put from off on -/
def putS (bs : List Int) (off : Nat) (v : Int) : Nat → List Int
  | 0 => bs
  | k + 1 => (putS bs off v k).set (off + k) (v / 2 ^ (8 * k) % 256)
theorem putS_len (bs : List Int) (off : Nat) (v : Int) : ∀ k, (putS bs off v k).length = bs.length
  | 0 => rfl
  | k + 1 => by rw [putS, List.length_set, putS_len bs off v k]
def spPutB : Sp := fun vs H Q _ => ∃ (vl : Addr) (bs : List Int) (off c : Nat) (v : Int), vs = [.ref vl, .int (off : Nat), .int (c : Nat), .int v] ∧ H vl = some (.lst (bs.map V.int)) ∧ off + c ≤ bs.length ∧ c ≤ 4 ∧ 0 ≤ v ∧ v < 4294967296 ∧ ∀ H', H' vl = some (.lst ((putS bs off v c).map V.int)) → But vl H H' → Q .non H'
end
end K06

namespace K06
theorem sc_first_memory : FnScope ["image", "segment"] ["image"] (defScope s_first_memory) := ⟨rfl, rfl, rfl, by decide +kernel, rfl, by decide +kernel, by decide +kernel⟩
theorem sc_word_at : FnScope ["image", "address"] ["image", "address"] (defScope s_word_at) := ⟨rfl, rfl, rfl, by decide +kernel, rfl, by decide +kernel, by decide +kernel⟩
def spFirst : Sp := fun vs H Q _ => ∃ (im sg : Addr) (gs : List Sg), vs = [.ref im] ∧ ImAt H im sg gs ∧ gs.length ≤ 1000 ∧ ∀ t H', H t = none → Same H H' → MemAt H' t (gs.map fun g => (g.v, g.bs)) → Q (.ref t) H'
section
variable {P : Program} {w : World} {K : PySem.W.Frag} {mg : Str → Option Value} {base : Heap}
theorem ok_first_memory (b_tuple : mg "tuple" = none) (Z : St1 K mg "first_memory" s_first_memory ["image"]) : Cd P w K mg base 1 "first_memory" spFirst := by
  refine Z.cd sc_first_memory (fun vs H Q E h => by obtain ⟨im, sg, gs, rfl, _⟩ := h; rfl) (fun f cdv A outer s H vs Q E hr h => ?_)
  obtain ⟨im, sg, gs, rfl, hI, hl, q⟩ := h
  obtain ⟨b, sy, hi⟩ := hI.hi
  refine ⟨_, (pss_one (ps_ret (pe_callTy call_tupQ (by rfl) b_tuple (by decide +kernel) (pa_cons (pe_lc (own := [("segment", 1)]) rfl sc_first_memory.nd (pi_tup (pe_ix ix_tup (pv 0) pe_int (fun _ _ => rfl))) (blkOk_by (own := [("segment", 1)]) (N := ["image", "segment"]) (sc := (defScope s_first_memory)) (by decide +kernel)) (fun _ _ _ _ _ => (pg_name (i := 1) sc_first_memory.nd rfl (.inl rfl))) (fun _ _ _ _ _ => pts_nil) (fun _ _ _ _ _ => (pe_ix (ix_tupK (K' := K) (by rfl)) (pv 1) pe_int (fun _ _ => rfl)))) pa_nil)))), ?_⟩
  (with_reducible refine w_ret ?_)
  (with_reducible refine w_cb ?_)
  (with_reducible refine w_cons ?_)
  (with_reducible refine w_lc ?_)
  (with_reducible refine w_iT ?_)
  (with_reducible refine w_op ?_)
  ((with_reducible refine' w_var ?hv ?_); (case hv => exact rfl))
  (with_reducible refine w_c ?_)
  ((with_reducible refine' w_ixT ?hh ?ha ?_); (case hh => assumption); (case ha => exact rfl))
  refine w_lcT (gs.map fun g => V.ref g.a) (fun D i H' => H D = none ∧ Same H H' ∧ H' D = some (.lst ((gs.take i).map fun g => V.ref g.v))) (.inl (.inl hI.hs)) (fun D nD => ⟨nD, Same.new nD, upd_same⟩) (fun D i H' _ h => .inl (.inl (h.2.1 _ _ hI.hs))) (fun D i x H1 hx h => ?_) (fun D H1 nD h => ?_)
  · obtain ⟨nD, s1, hD⟩ := h
    rw [List.getElem?_map] at hx
    obtain ⟨g, eg, rfl⟩ := Option.map_eq_some_iff.mp hx
    have ga := ((hI.hg g (List.mem_of_getElem? eg)).same s1).ha
    have hi := (List.getElem?_eq_some_iff.mp eg).1
    (with_reducible refine w_name ?_)
    refine ⟨rfl, ?_⟩
    (with_reducible refine w_yes ?_)
    (with_reducible refine w_itT ?_)
    (with_reducible refine w_op ?_)
    ((with_reducible refine' w_var ?hv ?_); (case hv => exact rfl))
    (with_reducible refine w_c ?_)
    ((with_reducible refine' w_ixT ?hh ?ha ?_); (case hh => assumption); (case ha => exact rfl))
    refine ⟨_, hD, by rw [List.length_map, List.length_take]; exact Nat.lt_of_le_of_lt (show _ ≤ 1000 by omega) (by decide), nD, fun y o hy => ?_, ?_⟩
    · rw [upd_ne (ne_of_none hy nD)]; exact s1 _ _ hy
    · rw [List.take_add_one, eg, List.map_append]; exact upd_same
  · obtain ⟨_, s1, hD⟩ := h
    refine w_tupL (.of hD) fun t H2 nt s2 ht => ?_
    rw [List.length_map, List.take_length] at ht
    refine q t H2 (fresh s1 nt) (s1.trans s2) ⟨by rw [ht, List.map_map]; rfl, fun r hr => ?_⟩
    obtain ⟨g, hg, rfl⟩ := List.mem_map.mp hr
    exact ((hI.hg g hg).same (s1.trans s2)).hv
def spWordAt : Sp := fun vs H Q _ => ∃ (im sg : Addr) (gs : List Sg) (ad : Int) (n : Nat) (g : Sg), vs = [.ref im, .int ad] ∧ ImAt H im sg gs ∧ gs.length ≤ 1000 ∧ FindR gs ad 4 n ∧ gs[n]? = some g ∧ (∀ x ∈ g.bs, B8 x) ∧ ∀ H', Same H H' → Q (.int (leS g.bs (ad - g.lo).toNat 4)) H'
theorem ok_word_at (c_first_memory : Cd P w K mg base 1 "first_memory" spFirst) (c_load_word : Cd P w K mg base 2 "load_word" spLoad) (Z : St1 K mg "word_at" s_word_at ["image", "address"]) : Cd P w K mg base 3 "word_at" spWordAt := by
  refine Z.cd sc_word_at (fun vs H Q E h => by obtain ⟨im, sg, gs, ad, n, g, rfl, _⟩ := h; rfl) (fun f cdv A outer s H vs Q E hr h => ?_)
  obtain ⟨im, sg, gs, ad, n, g, rfl, hI, hl, hf, eg, hb, q⟩ := h
  refine ⟨_, (pss_one (ps_ret (pe_cd c_load_word hr (by first | decide | omega) (by rfl) (pa_cons (pv 0) (pa_cons (pe_cd c_first_memory hr (by first | decide | omega) (by rfl) (pa_cons (pv 0) pa_nil)) (pa_cons (pv 1) (pa_cons pe_int pa_nil))))))), ?_⟩
  (with_reducible refine w_ret ?_)
  (with_reducible refine w_call ?_)
  (with_reducible refine w_cons ?_)
  ((with_reducible refine' w_var ?hv ?_); (case hv => exact rfl))
  (with_reducible refine w_cons ?_)
  (with_reducible refine w_call ?_)
  (with_reducible refine w_cons ?_)
  ((with_reducible refine' w_var ?hv ?_); (case hv => exact rfl))
  (with_reducible refine w_nil ?_)
  refine ⟨im, sg, gs, rfl, hI, hl, fun t H1 nt s1 hM => ?_⟩
  (with_reducible refine w_cons ?_)
  ((with_reducible refine' w_var ?hv ?_); (case hv => exact rfl))
  (with_reducible refine w_cons ?_)
  (with_reducible refine w_c ?_)
  (with_reducible refine w_nil ?_)
  exact ⟨im, sg, t, gs, _, ad, 4, n, g, (g.v, g.bs), rfl, hI.same s1, hM, hf, eg, by rw [List.getElem?_map, eg]; rfl, rfl, hb, by decide, fun H2 s2 => q H2 (s1.trans s2)⟩
end
end K06

namespace K06
theorem sc_encode : FnScope ["instruction", "op", "word", "shift", "kind", "operand"] ["instruction"] (defScope s_encode) := ⟨rfl, rfl, rfl, by decide +kernel, rfl, by decide +kernel, by decide +kernel⟩
theorem sc_with_sign : FnScope ["bits", "half"] ["bits", "half"] (defScope s_with_sign) := ⟨rfl, rfl, rfl, by decide +kernel, rfl, by decide +kernel, by decide +kernel⟩
theorem sc_immediate : FnScope ["kind", "word"] ["kind", "word"] (defScope s_immediate) := ⟨rfl, rfl, rfl, by decide +kernel, rfl, by decide +kernel, by decide +kernel⟩
theorem sc_decode : FnScope ["word", "number", "op", "operands", "shift", "kind", "found"] ["word"] (defScope s_decode) := ⟨rfl, rfl, rfl, by decide +kernel, rfl, by decide +kernel, by decide +kernel⟩
/-- a tuple that the module has written -/
def WTup (K : PySem.W.Frag) (O : Addr) (xs : List V) : Prop := ∃ (its : Array Value) (n : Nat) (sl : Array (Option Value)), K.lookup O = some ⟨.type "tuple", none, .seq its n, sl⟩ ∧ its.size ≤ sizeLine ∧ Vals xs its.toList
theorem WTup.sq {K : PySem.W.Frag} {O : Addr} {xs : List V} (h : WTup K O xs) (H : Hp) : SqT K H O xs := by
  obtain ⟨its, n, sl, l, z, v⟩ := h
  exact .inr ⟨_, its, n, l, rfl, rfl, z, v⟩
theorem WTup.ty {K : PySem.W.Frag} {O : Addr} {xs : List V} (h : WTup K O xs) {H : Hp} {B : Prop} (q : B) : tyV K "tuple" (.ref O) H ∧ B := by
  obtain ⟨its, n, sl, l, z, v⟩ := h
  exact ⟨.inr (.inl ⟨rfl, _, l, rfl, rfl⟩), q⟩
structure Env0 (K : PySem.W.Frag) (w : World) (mg : Str → Option Value) (O F : Addr) : Prop where
  g_OPS : GV mg "OPS" (.ref O)
  g_FORMS : GV mg "FORMS" (.ref F)
  g_LOW_14 : GV mg "LOW_14" (.int 16383)
  g_LOW_18 : GV mg "LOW_18" (.int 262143)
  ops : WTup K O ((opsT.map (·.1)).map V.str)
  rows : ∀ p ∈ opsT, KDct K w F p.1 (.str p.2)
def spEnc (K : PySem.W.Frag) : Sp := fun vs H Q _ => ∃ (t : Addr) (n : Nat) (op fm : Str) (xs : List Int), vs = [.ref t] ∧ SqT K H t (insV op xs) ∧ Ins n op fm xs ∧ ∀ H', Same H H' → Q (.int (encW n fm xs)) H'
theorem Ins.n38 {n : Nat} {op fm : Str} {xs : List Int} (h : Ins n op fm xs) : n < 38 := (List.getElem?_eq_some_iff.mp h.at_).1
theorem Fits.len {fm : Str} {xs : List Int} (h : Fits fm xs) : fm.cps.size = xs.length ∧ xs.length ≤ 3 ∧ ∀ x ∈ xs, -131072 ≤ x ∧ x < 262144 := by
  cases h <;> (refine ⟨rfl, by simp, fun x hx => ?_⟩; simp only [List.mem_cons, List.not_mem_nil, or_false] at hx; unfold R16 at *; rcases hx with rfl | rfl | rfl) <;> omega
section
variable {P : Program} {w : World} {K : PySem.W.Frag} {mg : Str → Option Value} {base : Heap}
theorem ok_encode {O F : Addr} (T : Env0 K w mg O F) (b_zip : mg "zip" = none) (Z : St1 K mg "encode" s_encode ["instruction"]) : Cd P w K mg base 1 "encode" (spEnc K) := by
  obtain ⟨g_OPS, g_FORMS, g_LOW_14, g_LOW_18, ops, rows⟩ := T
  refine Z.cd sc_encode (fun vs H Q E h => by obtain ⟨t, n, op, fm, xs, rfl, _⟩ := h; rfl) (fun f cdv A outer s H vs Q E hr h => ?_)
  obtain ⟨t, n, op, fm, xs, rfl, ht, hi, q⟩ := h
  have hr0 := rows (op, fm) (List.mem_of_getElem? hi.at_)
  have hn := hi.n38
  obtain ⟨fl, f3, fb⟩ := hi.fits.len
  obtain ⟨at1, at2⟩ := first_at hi.at_
  refine ⟨_, (pss_cons (ps_set (i := 1) sc_encode.nd rfl (.inl rfl) (pe_ix ix_tup (pv 0) pe_int (fun _ _ => rfl)))
      (pss_cons (ps_set (i := 2) sc_encode.nd rfl (.inl rfl) (pe_op op_shl (pe_op op_add (pe_bm PySem.F.plainAttrs_tuple PySem.F.slot_tuple_index PySem.F.type_tuple_index mt_tupIxQ (pe_gv (by rfl) g_OPS) (pa_cons (pv 1) pa_nil)) pe_int) pe_int))
      (pss_cons (ps_set (i := 3) sc_encode.nd rfl (.inl rfl) pe_int)
      (Evl.pss_cut (ps_for PassesOwn.never rfl (pi_zipST (by rfl) b_zip (pa_cons (pe_ix ix_kdict (pe_gv (by rfl) g_FORMS) (pv 1) (fun _ _ => rfl)) (pa_cons (pe_slice sl_tupA (pv 0) (po_some pe_int) po_none) pa_nil))) (pg_tup rfl (pgs_cons (pg_name (i := 4) sc_encode.nd rfl (.inl rfl)) (pgs_cons (pg_name (i := 5) sc_encode.nd rfl (.inl rfl)) pgs_nil)))
      (pss_one (ps_if (pt_cmpR op_inSQ (pv 4) pe_str rfl) (pss_cons (ps_aug (i := 2) sc_encode.nd rfl (.inl rfl) (pe_op op_shl (pv 5) (pv 3)) ip_add)
      (pss_one (ps_aug (i := 3) sc_encode.nd rfl (.inl rfl) pe_int ip_sub))) (pss_one (ps_if (pt_cmpR op_eq (pv 4) pe_str (nomark _)) (pss_one (ps_aug (i := 2) sc_encode.nd rfl (.inl rfl) (pe_op op_and (pv 5) (pe_gv (by rfl) g_LOW_14)) ip_add)) (pss_one (ps_aug (i := 2) sc_encode.nd rfl (.inl rfl) (pe_op op_and (pv 5) (pe_gv (by rfl) g_LOW_18)) ip_add)))))))
      (pss_one (ps_ret (pv 2))))))), ?_⟩
  (with_reducible refine w_seq ?_)
  (with_reducible refine w_asg ?_)
  (with_reducible refine w_op ?_)
  ((with_reducible refine' w_var ?hv ?_); (case hv => exact rfl))
  (with_reducible refine w_c ?_)
  refine w_ixTs ht (atI_of (v := .str op) (by decide) rfl) ?_
  (with_reducible refine w_name ?_)
  (with_reducible refine w_seq ?_)
  (with_reducible refine w_asg ?_)
  (with_reducible refine w_op ?_)
  (with_reducible refine w_op ?_)
  (with_reducible refine w_bm ?_)
  (with_reducible refine w_c ?_)
  refine ops.ty ?_
  (with_reducible refine w_cons ?_)
  ((with_reducible refine' w_var ?hv ?_); (case hv => exact rfl))
  (with_reducible refine w_nil ?_)
  refine w_tix (ops.sq H) at1 at2 ?_
  (with_reducible refine w_c ?_)
  (with_reducible refine w_I0 ?_)
  (with_reducible refine w_c ?_)
  ((with_reducible refine w_I ?hc ?_); (case hc => walk_at "side"))
  (with_reducible refine w_name ?_)
  (with_reducible refine w_seq ?_)
  (with_reducible refine w_asg ?_)
  (with_reducible refine w_c ?_)
  (with_reducible refine w_name ?_)
  have ew : ((n : Int) + 1) * 2 ^ (26 : Int).toNat = ((n : Int) + 1) * 67108864 := rfl
  obtain ⟨x0, xr, rfl⟩ : ∃ x0 xr, xs = x0 :: xr := by cases hi.fits <;> exact ⟨_, _, rfl⟩
  have inv0 : ∀ v4 v5 v6 : Option V, True := fun _ _ _ => trivial
  refine Evl.q_cut (M := fun σ' H' => Same H H' ∧ ∃ v4 v5 v6, σ' = [some (.ref t), some (.str op), some (.int (encW n fm (x0 :: xr))), v4, v5, v6]) ?_ ?_
  · (with_reducible refine w_for ?_)
    (with_reducible refine w_zST ?_)
    (with_reducible refine w_cons ?_)
    (with_reducible refine w_op ?_)
    (with_reducible refine w_c ?_)
    ((with_reducible refine' w_var ?hv ?_); (case hv => exact rfl))
    refine w_ixD hr0 ?_
    (with_reducible refine w_cons ?_)
    (with_reducible refine w_sl ?_)
    ((with_reducible refine' w_var ?hv ?_); (case hv => exact rfl))
    (with_reducible refine w_part ?_)
    (with_reducible refine w_c ?_)
    (with_reducible refine w_exI ?_)
    (with_reducible refine w_noPart ?_)
    refine w_rSl1 ht fun p H1 np sm hp => ?_
    (with_reducible refine w_nil ?_)
    have zl : (fm.cps.toList.zip (x0 :: xr)).length = (x0 :: xr).length := by rw [List.length_zip]; simp only [Array.length_toList, fl, Nat.min_self]
    refine w_forZ ((x0 :: xr).map V.int) (fun i σ' H' => Same H1 H' ∧ ∃ v4 v5 v6 : Option V, σ' = [some (.ref t), some (.str op), some (.int (goE ((fm.cps.toList.zip (x0 :: xr)).take i) (((n : Int) + 1) * 67108864)).1), some (.int (goE ((fm.cps.toList.zip (x0 :: xr)).take i) (((n : Int) + 1) * 67108864)).2), v5, v6] ∧ 22 - 4 * (i : Int) ≤ (goE ((fm.cps.toList.zip (x0 :: xr)).take i) (((n : Int) + 1) * 67108864)).2 ∧ (goE ((fm.cps.toList.zip (x0 :: xr)).take i) (((n : Int) + 1) * 67108864)).2 ≤ 22) (.of hp) (by rw [List.length_map]; exact fl) ⟨Same.refl _, none, none, none, rfl, by show (22 : Int) - 4 * 0 ≤ 22; decide, by show (22 : Int) ≤ 22; decide⟩ (fun i σ' H' ⟨sm', _⟩ => .of (sm' _ _ hp)) ?_ ?_
    · rintro i c y T σ' H' H'' hc hy ⟨sm', v4, v5, v6, rfl, lo, hi'⟩ nT sT hT
      obtain ⟨x, hx, rfl⟩ := map_get hy
      have hil : i < (x0 :: xr).length := (List.getElem?_eq_some_iff.mp hx).1
      have hb := fb x (List.mem_of_getElem? hx)
      have hz : (fm.cps.toList.zip (x0 :: xr))[i]? = some (c, x) := by
        rw [List.getElem?_zip_eq_some]
        exact ⟨by simpa using hc, hx⟩
      have tk := take_more hz
      have st : goE ((fm.cps.toList.zip (x0 :: xr)).take (i + 1)) (((n : Int) + 1) * 67108864) = stepE (goE ((fm.cps.toList.zip (x0 :: xr)).take i) (((n : Int) + 1) * 67108864)) (c, x) := by
        rw [tk]; unfold goE; rw [List.foldl_append]; rfl
      generalize goE ((fm.cps.toList.zip (x0 :: xr)).take i) (((n : Int) + 1) * 67108864) = s0 at *
      obtain ⟨wd, sh⟩ := s0
      ((with_reducible refine' w_gTup ?hh ?hn ?_); (case hh => assumption); (case hn => exact rfl))
      (with_reducible refine w_gCons ?_)
      (with_reducible refine w_name ?_)
      (with_reducible refine w_gCons ?_)
      (with_reducible refine w_name ?_)
      (with_reducible refine w_gNil ?_)
      (with_reducible refine w_ifS ?_)
      (with_reducible refine w_test ?_)
      (with_reducible refine w_op ?_)
      ((with_reducible refine' w_var ?hv ?_); (case hv => exact rfl))
      (with_reducible refine w_c ?_)
      (with_reducible refine w_inSg ?_)
      (with_reducible refine w_bl ?_)
      have hi3 : i < 3 := by omega
      simp only at lo hi'
      refine w_dec (fun e => ?_) (fun e => ?_)
      · have e' : c = 100 ∨ c = 115 := by simpa using (show c ∈ [100, 115] from e)
        (with_reducible refine w_seq ?_)
        ((with_reducible refine' w_aug ?hh ?_); (case hh => exact rfl))
        (with_reducible refine w_op ?_)
        ((with_reducible refine' w_var ?hv ?_); (case hv => exact rfl))
        ((with_reducible refine' w_var ?hv ?_); (case hv => exact rfl))
        ((with_reducible refine w_I ?hc ?_); (case hc => walk_at "side"))
        (with_reducible refine w_ipI ?_)
        ((with_reducible refine' w_aug ?hh ?_); (case hh => exact rfl))
        (with_reducible refine w_c ?_)
        (with_reducible refine w_ipI ?_)
        have s1 : stepE (wd, sh) (c, x) = (wd + x * 2 ^ sh.toNat, sh - 4) := if_pos e'
        rw [s1] at st
        exact ⟨sm'.trans sT, none, _, _, by rw [st]; rfl, by rw [st]; show 22 - 4 * ((i + 1 : Nat) : Int) ≤ sh - 4; omega, by rw [st]; show sh - 4 ≤ 22; omega⟩
      · have e' : ¬ (c = 100 ∨ c = 115) := fun z => e (show c ∈ [100, 115] by simpa using z)
        (with_reducible refine w_ifS ?_)
        (with_reducible refine w_test ?_)
        (with_reducible refine w_op ?_)
        ((with_reducible refine' w_var ?hv ?_); (case hv => exact rfl))
        (with_reducible refine w_c ?_)
        (with_reducible refine w_eqS ?_)
        (with_reducible refine w_bl ?_)
        refine w_dec (fun e2 => ?_) (fun e2 => ?_)
        · have e3 : c = 105 := Option.some.inj (congrArg (fun z : Str => z.cps[0]?) e2)
          ((with_reducible refine' w_aug ?hh ?_); (case hh => exact rfl))
          (with_reducible refine w_op ?_)
          ((with_reducible refine' w_var ?hv ?_); (case hv => exact rfl))
          (with_reducible refine w_c ?_)
          (with_reducible refine w_I0 ?_)
          (with_reducible refine w_ipI ?_)
          have s1 : stepE (wd, sh) (c, x) = (wd + x % 16384, sh) := (if_neg e').trans (if_pos e3)
          rw [s1] at st
          have eb : Builtin.bitAnd x 16383 = x % 16384 := PySem.W.kbt_mask x 14
          refine ⟨sm'.trans sT, none, _, _, by rw [st, eb]; rfl, by rw [st]; show 22 - 4 * ((i + 1 : Nat) : Int) ≤ sh; omega, by rw [st]; show sh ≤ 22; omega⟩
        · have e3 : c ≠ 105 := fun z => e2 (by rw [z]; rfl)
          ((with_reducible refine' w_aug ?hh ?_); (case hh => exact rfl))
          (with_reducible refine w_op ?_)
          ((with_reducible refine' w_var ?hv ?_); (case hv => exact rfl))
          (with_reducible refine w_c ?_)
          (with_reducible refine w_I0 ?_)
          (with_reducible refine w_ipI ?_)
          have s1 : stepE (wd, sh) (c, x) = (wd + x % 262144, sh) := (if_neg e').trans (if_neg e3)
          rw [s1] at st
          have eb : Builtin.bitAnd x 262143 = x % 262144 := PySem.W.kbt_mask x 18
          refine ⟨sm'.trans sT, none, _, _, by rw [st, eb]; rfl, by rw [st]; show 22 - 4 * ((i + 1 : Nat) : Int) ≤ sh; omega, by rw [st]; show sh ≤ 22; omega⟩
    · rintro σ' H' ⟨sm', v4, v5, v6, rfl, _⟩
      rw [List.length_map, ← zl, List.take_length]
      exact ⟨sm.trans sm', _, _, _, rfl⟩
  · rintro σ' H' ⟨sm, v4, v5, v6, rfl⟩
    (with_reducible refine w_ret ?_)
    ((with_reducible refine' w_var ?hv ?_); (case hv => exact rfl))
    exact q H' sm
theorem ok_with_sign (Z : St1 K mg "_with_sign" s_with_sign ["bits", "half"]) : Cd P w K mg base 1 "_with_sign" (spI2 (fun _ h => 0 ≤ h ∧ h < 1000000) fun b h => .int (sg b h)) := by
  refine Z.cd sc_with_sign len_spI2 (fun f cdv A outer s H vs Q E hr h => ?_)
  obtain ⟨b, h, rfl, ⟨h0, h1⟩, q⟩ := h
  refine ⟨_, (pss_one (ps_ret (pe_ifExp (pt_cmpR op_ge (pv 0) (pv 1) (nomark _)) (pe_op op_sub (pv 0) (pe_op op_mul pe_int (pv 1))) (pv 0)))), ?_⟩
  (with_reducible refine w_ret ?_)
  (with_reducible refine w_if ?_)
  (with_reducible refine w_test ?_)
  (with_reducible refine w_op ?_)
  ((with_reducible refine' w_var ?hv ?_); (case hv => exact rfl))
  ((with_reducible refine' w_var ?hv ?_); (case hv => exact rfl))
  (with_reducible refine w_I0 ?_)
  (with_reducible refine w_bl ?_)
  refine w_dec (fun e => ?_) (fun e => ?_)
  · (with_reducible refine w_op ?_)
    ((with_reducible refine' w_var ?hv ?_); (case hv => exact rfl))
    (with_reducible refine w_op ?_)
    (with_reducible refine w_c ?_)
    ((with_reducible refine' w_var ?hv ?_); (case hv => exact rfl))
    ((with_reducible refine w_I ?hc ?_); (case hc => walk_at "side"))
    (with_reducible refine w_I0 ?_)
    simpa only [sg, if_pos e] using q
  · ((with_reducible refine' w_var ?hv ?_); (case hv => exact rfl))
    simpa only [sg, if_neg e] using q
def spImm : Sp := fun vs H Q _ => ∃ (c : Nat) (w : Int), vs = [.str ⟨#[c]⟩, .int w] ∧ Q (.int (imm c w)) H
theorem one_eq {c k : Nat} {x : Str} (hx : x.cps[0]? = some k) (hs : x = ⟨#[k]⟩) : ((⟨#[c]⟩ : Str) = x) ↔ c = k := by
  constructor
  · intro e
    have := congrArg (fun z : Str => z.cps[0]?) e
    rw [hx] at this
    exact Option.some.inj this
  · intro e
    rw [e, hs]
theorem ok_immediate {O F : Addr} (T : Env0 K w mg O F) (c_with_sign : Cd P w K mg base 1 "_with_sign" (spI2 (fun _ h => 0 ≤ h ∧ h < 1000000) fun b h => .int (sg b h))) (Z : St1 K mg "_immediate" s_immediate ["kind", "word"]) : Cd P w K mg base 2 "_immediate" spImm := by
  obtain ⟨g_OPS, g_FORMS, g_LOW_14, g_LOW_18, ops, rows⟩ := T
  refine Z.cd sc_immediate (fun vs H Q E h => by obtain ⟨c, x, rfl, _⟩ := h; rfl) (fun f cdv A outer s H vs Q E hr h => ?_)
  obtain ⟨c, x, rfl, q⟩ := h
  have e14 : Builtin.bitAnd x 16383 = x % 16384 := PySem.W.kbt_mask x 14
  have e18 : Builtin.bitAnd x 262143 = x % 262144 := PySem.W.kbt_mask x 18
  refine ⟨_, (pss_cons (ps_if (pt_cmpR op_eq (pv 0) pe_str (nomark _)) (pss_one (ps_ret (pe_cd c_with_sign hr (by first | decide | omega) (by rfl) (pa_cons (pe_op op_and (pv 1) (pe_gv (by rfl) g_LOW_14)) (pa_cons (pe_op op_pow pe_int pe_int) pa_nil))))) pss_nil)
      (pss_cons (ps_if (pt_cmpR op_eq (pv 0) pe_str (nomark _)) (pss_one (ps_ret (pe_cd c_with_sign hr (by first | decide | omega) (by rfl) (pa_cons (pe_op op_and (pv 1) (pe_gv (by rfl) g_LOW_18)) (pa_cons (pe_op op_pow pe_int pe_int) pa_nil))))) pss_nil)
      (pss_one (ps_ret (pe_op op_and (pv 1) (pe_gv (by rfl) g_LOW_18)))))), ?_⟩
  (with_reducible refine w_seq ?_)
  (with_reducible refine w_ifS ?_)
  (with_reducible refine w_test ?_)
  (with_reducible refine w_op ?_)
  ((with_reducible refine' w_var ?hv ?_); (case hv => exact rfl))
  (with_reducible refine w_c ?_)
  (with_reducible refine w_eqS ?_)
  (with_reducible refine w_bl ?_)
  refine w_dec (fun e => ?_) (fun e => ?_)
  · have e' := (one_eq (k := 105) rfl rfl).mp e
    (with_reducible refine w_ret ?_)
    (with_reducible refine w_call ?_)
    (with_reducible refine w_cons ?_)
    (with_reducible refine w_op ?_)
    ((with_reducible refine' w_var ?hv ?_); (case hv => exact rfl))
    (with_reducible refine w_c ?_)
    (with_reducible refine w_I0 ?_)
    (with_reducible refine w_cons ?_)
    (with_reducible refine w_op ?_)
    (with_reducible refine w_c ?_)
    (with_reducible refine w_c ?_)
    (with_reducible refine w_p13 ?_)
    (with_reducible refine w_nil ?_)
    ((with_reducible refine w_spI2 ?hc ?_); (case hc => walk_at "side"))
    rw [e14]
    simpa only [imm, if_pos e'] using q
  · have e' := fun z => e ((one_eq (k := 105) rfl rfl).mpr z)
    (with_reducible refine w_next ?_)
    (with_reducible refine w_seq ?_)
    (with_reducible refine w_ifS ?_)
    (with_reducible refine w_test ?_)
    (with_reducible refine w_op ?_)
    ((with_reducible refine' w_var ?hv ?_); (case hv => exact rfl))
    (with_reducible refine w_c ?_)
    (with_reducible refine w_eqS ?_)
    (with_reducible refine w_bl ?_)
    refine w_dec (fun e2 => ?_) (fun e2 => ?_)
    · have e2' := (one_eq (k := 106) rfl rfl).mp e2
      (with_reducible refine w_ret ?_)
      (with_reducible refine w_call ?_)
      (with_reducible refine w_cons ?_)
      (with_reducible refine w_op ?_)
      ((with_reducible refine' w_var ?hv ?_); (case hv => exact rfl))
      (with_reducible refine w_c ?_)
      (with_reducible refine w_I0 ?_)
      (with_reducible refine w_cons ?_)
      (with_reducible refine w_op ?_)
      (with_reducible refine w_c ?_)
      (with_reducible refine w_c ?_)
      (with_reducible refine w_p17 ?_)
      (with_reducible refine w_nil ?_)
      ((with_reducible refine w_spI2 ?hc ?_); (case hc => walk_at "side"))
      rw [e18]
      simpa only [imm, if_neg e', if_pos e2'] using q
    · have e2' := fun z => e2 ((one_eq (k := 106) rfl rfl).mpr z)
      (with_reducible refine w_next ?_)
      (with_reducible refine w_ret ?_)
      (with_reducible refine w_op ?_)
      ((with_reducible refine' w_var ?hv ?_); (case hv => exact rfl))
      (with_reducible refine w_c ?_)
      (with_reducible refine w_I0 ?_)
      rw [e18]
      simpa only [imm, if_neg e', if_neg e2'] using q
end
def DecOf (x : Int) (v : V) (H' : Hp) : Prop := (∃ (n : Nat) (op fm : Str) (xs : List Int) (t : Addr), Ins n op fm xs ∧ encW n fm xs = x ∧ v = .ref t ∧ H' t = some (.tup (insV op xs))) ∨ ((∀ n op fm xs, Ins n op fm xs → encW n fm xs ≠ x) ∧ v = .non)
def spDec : Sp := fun vs H Q _ => ∃ (x : Int), vs = [.int x] ∧ 0 ≤ x ∧ x < 4294967296 ∧ ∀ v H', Same H H' → DecOf x v H' → Q v H'
section
variable {P : Program} {w : World} {K : PySem.W.Frag} {mg : Str → Option Value} {base : Heap}
theorem ok_decode {O F : Addr} (T : Env0 K w mg O F) (b_len : mg "len" = none) (c_encode : Cd P w K mg base 1 "encode" (spEnc K)) (c_immediate : Cd P w K mg base 2 "_immediate" spImm) (Z : St1 K mg "decode" s_decode ["word"]) : Cd P w K mg base 3 "decode" spDec := by
  obtain ⟨g_OPS, g_FORMS, g_LOW_14, g_LOW_18, ops, rows⟩ := T
  refine Z.cd sc_decode (fun vs H Q E h => by obtain ⟨x, rfl, _⟩ := h; rfl) (fun f cdv A outer s H vs Q E hr h => ?_)
  obtain ⟨x, rfl, x0, x1, q⟩ := h
  have e26 : x / 2 ^ (26 : Int).toNat = x / 67108864 := rfl
  have lo : ((opsT.map (·.1)).map V.str).length = 38 := rfl
  refine ⟨_, (pss_cons (ps_set (i := 1) sc_decode.nd rfl (.inl rfl) (pe_op op_shr (pv 0) pe_int))
      (pss_cons (ps_if (pt_not (pt_chain op_le op_le pe_int (pv 1) (pe_callB call_lenQ (by rfl) b_len PySem.boot_len (pa_cons (pe_gv (by rfl) g_OPS) pa_nil)))) (pss_one (ps_ret pe_non)) pss_nil)
      (pss_cons (ps_set (i := 2) sc_decode.nd rfl (.inl rfl) (pe_ix ix_tup (pe_gv (by rfl) g_OPS) (pe_op op_sub (pv 1) pe_int) (fun _ _ => rfl)))
      (pss_cons (ps_set (i := 3) sc_decode.nd rfl (.inl rfl) (pe_lst pa_nil))
      (pss_cons (ps_set (i := 4) sc_decode.nd rfl (.inl rfl) pe_int)
      (Evl.pss_cut (ps_for PassesOwn.never rfl (pi_str (pe_ix ix_kdict (pe_gv (by rfl) g_FORMS) (pv 2) (fun _ _ => rfl))) (pg_name (i := 5) sc_decode.nd rfl (.inl rfl))
      (pss_one (ps_if (pt_cmpR op_inSQ (pv 5) pe_str rfl) (pss_cons (ps_expr (pe_bm PySem.F.plainAttrs_list PySem.F.slot_list_append PySem.F.type_list_append mt_append (pv 3) (pa_cons (pe_op op_and (pe_op op_shr (pv 0) (pv 4)) pe_int) pa_nil)))
      (pss_one (ps_aug (i := 4) sc_decode.nd rfl (.inl rfl) pe_int ip_sub))) (pss_one (ps_expr (pe_bm PySem.F.plainAttrs_list PySem.F.slot_list_append PySem.F.type_list_append mt_append (pv 3) (pa_cons (pe_cd c_immediate hr (by first | decide | omega) (by rfl) (pa_cons (pv 5) (pa_cons (pv 0) pa_nil))) pa_nil)))))))
      (pss_cons (ps_set (i := 6) sc_decode.nd rfl (.inl rfl) (pe_tup (pa_cons (pv 2) (StX.pa_star (pv 3) pa_nil))))
      (pss_one (ps_ret (pe_ifExp (pt_cmpR op_eq (pe_cd c_encode hr (by first | decide | omega) (by rfl) (pa_cons (pv 6) pa_nil)) (pv 0) (nomark _)) (pv 6) pe_non)))))))))), ?_⟩
  (with_reducible refine w_seq ?_)
  (with_reducible refine w_asg ?_)
  (with_reducible refine w_op ?_)
  ((with_reducible refine' w_var ?hv ?_); (case hv => exact rfl))
  (with_reducible refine w_c ?_)
  ((with_reducible refine w_I ?hc ?_); (case hc => walk_at "side"))
  (with_reducible refine w_name ?_)
  (with_reducible refine w_seq ?_)
  (with_reducible refine w_ifS ?_)
  (with_reducible refine w_notT ?_)
  (with_reducible refine w_test ?_)
  (with_reducible refine w_chain ?_)
  (with_reducible refine w_c ?_)
  ((with_reducible refine' w_var ?hv ?_); (case hv => exact rfl))
  (with_reducible refine w_I0 ?_)
  (with_reducible refine w_bl ?_)
  rw [e26]
  have none_of : (x / 67108864 < 1 ∨ 38 < x / 67108864) → ∀ n op fm xs, Ins n op fm xs → encW n fm xs ≠ x := fun hx n op fm xs hi e => by
    have z := hi.fits.enc (n := n)
    rw [e] at z
    have := hi.n38
    omega
  refine w_dec (fun e1 => ?_) (fun e1 => ?_)
  · (with_reducible refine w_cb ?_)
    (with_reducible refine w_cons ?_)
    (with_reducible refine w_c ?_)
    (with_reducible refine w_nil ?_)
    refine w_lenTs (ops.sq H) ?_
    (with_reducible refine w_I0 ?_)
    (with_reducible refine w_bl ?_)
    rw [lo]
    refine w_ndec (fun e2 => ?_) (fun e2 => ?_)
    · (with_reducible refine w_ret ?_)
      (with_reducible refine w_c ?_)
      exact q _ _ (Same.refl H) (.inr ⟨none_of (by omega), rfl⟩)
    · (with_reducible refine w_next ?_)
      (with_reducible refine w_seq ?_)
      (with_reducible refine w_asg ?_)
      (with_reducible refine w_op ?_)
      (with_reducible refine w_c ?_)
      (with_reducible refine w_op ?_)
      ((with_reducible refine' w_var ?hv ?_); (case hv => exact rfl))
      (with_reducible refine w_c ?_)
      (with_reducible refine w_I0 ?_)
      have hn : (x / 67108864 - 1).toNat < opsT.length := by show _ < 38; omega
      obtain ⟨op, fm, hop⟩ : ∃ op fm, opsT[(x / 67108864 - 1).toNat]? = some (op, fm) := ⟨_, _, List.getElem?_eq_getElem hn⟩
      have hfm := ops_forms _ (List.mem_of_getElem? hop)
      have hr0 := rows (op, fm) (List.mem_of_getElem? hop)
      have hft := fits_of hfm x
      obtain ⟨fl, f3, fb⟩ := hft.len
      have hsz : fm.cps.size ≤ 3 := by rw [fl]; exact f3
      refine w_ixTs (v := .str op) (ops.sq H) (atI_of (by omega) (by rw [List.getElem?_map, List.getElem?_map, hop]; rfl)) ?_
      (with_reducible refine w_name ?_)
      (with_reducible refine w_seq ?_)
      (with_reducible refine w_asg ?_)
      (with_reducible refine w_lst ?_)
      (with_reducible refine w_nil ?_)
      refine w_kLst (Nat.zero_le _) fun p H1 np sm hp => ?_
      (with_reducible refine w_name ?_)
      (with_reducible refine w_seq ?_)
      (with_reducible refine w_asg ?_)
      (with_reducible refine w_c ?_)
      (with_reducible refine w_name ?_)
      refine Evl.q_cut (M := fun σ' H' => Same H H' ∧ H' p = some (.lst ((fieldsOf fm x).map V.int)) ∧ ∃ v4 v5 v6 : Option V, σ' = [some (.int x), some (.int (x / 67108864)), some (.str op), some (.ref p), v4, v5, v6]) ?_ ?_
      · (with_reducible refine w_for ?_)
        (with_reducible refine w_iSt ?_)
        (with_reducible refine w_op ?_)
        (with_reducible refine w_c ?_)
        ((with_reducible refine' w_var ?hv ?_); (case hv => exact rfl))
        refine w_ixD hr0 ?_
        refine w_forS (fun i σ' H' => Same H H' ∧ H' p = some (.lst ((goD x (fm.cps.toList.take i)).1.map V.int)) ∧ ∃ v5 v6 : Option V, σ' = [some (.int x), some (.int (x / 67108864)), some (.str op), some (.ref p), some (.int (goD x (fm.cps.toList.take i)).2), v5, v6] ∧ 22 - 4 * (i : Int) ≤ (goD x (fm.cps.toList.take i)).2 ∧ (goD x (fm.cps.toList.take i)).1.length = i) ⟨sm, hp, none, none, rfl, by show (22 : Int) - 4 * 0 ≤ 22; decide, rfl⟩ ?_ ?_
        · rintro i c σ' H' hc ⟨sm', hp', v5, v6, rfl, lo', ll⟩
          have hil : i < fm.cps.size := (Array.getElem?_eq_some_iff.mp hc).1
          have hc' : fm.cps.toList[i]? = some c := by simpa using hc
          have st : goD x (fm.cps.toList.take (i + 1)) = stepD x (goD x (fm.cps.toList.take i)) c := by
            rw [take_more hc']; unfold goD; rw [List.foldl_append]; rfl
          generalize goD x (fm.cps.toList.take i) = s0 at *
          obtain ⟨ac, sh⟩ := s0
          simp only at lo' ll hp'
          have hi3 : i < 3 := by omega
          (with_reducible refine w_name ?_)
          (with_reducible refine w_ifS ?_)
          (with_reducible refine w_test ?_)
          (with_reducible refine w_op ?_)
          ((with_reducible refine' w_var ?hv ?_); (case hv => exact rfl))
          (with_reducible refine w_c ?_)
          (with_reducible refine w_inSg ?_)
          (with_reducible refine w_bl ?_)
          refine w_dec (fun e => ?_) (fun e => ?_)
          · have e' : c = 100 ∨ c = 115 := by simpa using (show c ∈ [100, 115] from e)
            have s1 : stepD x (ac, sh) c = (ac ++ [x / 2 ^ sh.toNat % 16], sh - 4) := if_pos e'
            rw [s1] at st
            (with_reducible refine w_seq ?_)
            (with_reducible refine w_drop ?_)
            (with_reducible refine w_bm ?_)
            ((with_reducible refine' w_var ?hv ?_); (case hv => exact rfl))
            ((with_reducible refine' w_tyL ?hh ?_); (case hh => assumption))
            (with_reducible refine w_cons ?_)
            (with_reducible refine w_op ?_)
            (with_reducible refine w_op ?_)
            ((with_reducible refine' w_var ?hv ?_); (case hv => exact rfl))
            ((with_reducible refine' w_var ?hv ?_); (case hv => exact rfl))
            ((with_reducible refine w_I ?hc ?_); (case hc => walk_at "side"))
            (with_reducible refine w_c ?_)
            (with_reducible refine w_I0 ?_)
            (with_reducible refine w_nil ?_)
            have eb : Builtin.bitAnd (x / 2 ^ sh.toNat) 15 = x / 2 ^ sh.toNat % 16 := PySem.W.kbt_mask _ 4
            refine w_append hp' (by rw [List.length_map]; exact small1000 (by omega)) fun H2 hp2 b2 => ?_
            ((with_reducible refine' w_aug ?hh ?_); (case hh => exact rfl))
            (with_reducible refine w_c ?_)
            (with_reducible refine w_ipI ?_)
            refine ⟨fun b o h => ?_, ?_, some (.str ⟨#[c]⟩), v6, ?_, ?_, ?_⟩
            · have hbp : b ≠ p := fun z => by rw [z, np] at h; cases h
              exact b2 b o hbp (sm' b o h)
            · rw [hp2, st, eb, List.map_append]; rfl
            · rw [st]; rfl
            · rw [st]; show 22 - 4 * ((i + 1 : Nat) : Int) ≤ sh - 4; omega
            · rw [st]; show (ac ++ [_]).length = i + 1; rw [List.length_append]; simp [ll]
          · have e' : ¬ (c = 100 ∨ c = 115) := fun z => e (show c ∈ [100, 115] by simpa using z)
            have s1 : stepD x (ac, sh) c = (ac ++ [imm c x], sh) := if_neg e'
            rw [s1] at st
            (with_reducible refine w_drop ?_)
            (with_reducible refine w_bm ?_)
            ((with_reducible refine' w_var ?hv ?_); (case hv => exact rfl))
            ((with_reducible refine' w_tyL ?hh ?_); (case hh => assumption))
            (with_reducible refine w_cons ?_)
            (with_reducible refine w_call ?_)
            (with_reducible refine w_cons ?_)
            ((with_reducible refine' w_var ?hv ?_); (case hv => exact rfl))
            (with_reducible refine w_cons ?_)
            ((with_reducible refine' w_var ?hv ?_); (case hv => exact rfl))
            (with_reducible refine w_nil ?_)
            refine ⟨c, x, rfl, ?_⟩
            (with_reducible refine w_nil ?_)
            refine w_append hp' (by rw [List.length_map]; exact small1000 (by omega)) fun H2 hp2 b2 => ?_
            skip
            refine ⟨fun b o h => ?_, ?_, some (.str ⟨#[c]⟩), v6, ?_, ?_, ?_⟩
            · have hbp : b ≠ p := fun z => by rw [z, np] at h; cases h
              exact b2 b o hbp (sm' b o h)
            · rw [hp2, st, List.map_append]; rfl
            · rw [st]; rfl
            · rw [st]; show 22 - 4 * ((i + 1 : Nat) : Int) ≤ sh; omega
            · rw [st]; show (ac ++ [_]).length = i + 1; rw [List.length_append]; simp [ll]
        · rintro σ' H' ⟨sm', hp', v5, v6, rfl, _⟩
          have e : fm.cps.toList.take fm.cps.size = fm.cps.toList := List.take_of_length_le (by simp)
          rw [e] at hp'
          refine ⟨sm', hp', _, _, _, rfl⟩
      · rintro σ' H' ⟨sm', hp', v4, v5, v6, rfl⟩
        (with_reducible refine w_seq ?_)
        (with_reducible refine w_asg ?_)
        (with_reducible refine w_tup ?_)
        (with_reducible refine w_cons ?_)
        ((with_reducible refine' w_var ?hv ?_); (case hv => exact rfl))
        (with_reducible refine w_star ?_)
        ((with_reducible refine' w_var ?hv ?_); (case hv => exact rfl))
        refine w_stR hp' ?_
        (with_reducible refine w_nil ?_)
        have hl : (fieldsOf fm x).length ≤ 3 := f3
        refine w_kTup (by simp only [List.length_append, List.length_map, List.length_cons, List.length_nil]; exact Nat.le_of_lt (small1000 (by omega))) fun t H2 nt st ht => ?_
        replace ht : H2 t = some (.tup (insV op (fieldsOf fm x))) := by simpa [insV] using ht
        (with_reducible refine w_name ?_)
        (with_reducible refine w_ret ?_)
        (with_reducible refine w_if ?_)
        (with_reducible refine w_test ?_)
        (with_reducible refine w_op ?_)
        (with_reducible refine w_call ?_)
        (with_reducible refine w_cons ?_)
        ((with_reducible refine' w_var ?hv ?_); (case hv => exact rfl))
        (with_reducible refine w_nil ?_)
        have hins : Ins (x / 67108864 - 1).toNat op fm (fieldsOf fm x) := ⟨hop, hft⟩
        refine ⟨t, _, op, fm, fieldsOf fm x, rfl, .of ht, hins, fun H3 s3 => ?_⟩
        ((with_reducible refine' w_var ?hv ?_); (case hv => exact rfl))
        (with_reducible refine w_eqI ?_)
        (with_reducible refine w_bl ?_)
        refine w_dec (fun e => ?_) (fun e => ?_)
        · ((with_reducible refine' w_var ?hv ?_); (case hv => exact rfl))
          exact q _ _ (sm'.trans (st.trans s3)) (.inl ⟨_, op, fm, _, t, hins, e, rfl, s3 _ _ ht⟩)
        · (with_reducible refine w_c ?_)
          refine q _ _ (sm'.trans (st.trans s3)) (.inr ⟨fun n op' fm' xs hi he => e ?_, rfl⟩)
          have z := hi.fits.enc (n := n)
          rw [he] at z
          have en : (x / 67108864 - 1).toNat = n := by omega
          have q2 := Option.some.inj (hi.at_.symm.trans (en ▸ hop))
          cases q2
          rw [en, z.1]
          exact he
  · (with_reducible refine w_bl ?_)
    (with_reducible refine w_nF ?_)
    (with_reducible refine w_ret ?_)
    (with_reducible refine w_c ?_)
    exact q _ _ (Same.refl H) (.inr ⟨none_of (by omega), rfl⟩)
end
end K06

namespace K06
theorem sc_law_read : FnScope ["word", "number", "op", "a", "b", "low", "wide", "row"] ["word"] (defScope s_law_read) := ⟨rfl, rfl, rfl, by decide +kernel, rfl, by decide +kernel, by decide +kernel⟩
def spWordS (K : PySem.W.Frag) : Sp := fun vs H Q _ => ∃ (t : Addr) (n : Nat) (op fm : Str) (xs : List Int), vs = [.ref t] ∧ SqT K H t (insV op xs) ∧ opsT[n]? = some (op, fm) ∧ RFits fm xs ∧ ∀ H', Same H H' → Q (.int (encW n fm xs)) H'
theorem Fits.r {fm : Str} {xs : List Int} (h : Fits fm xs) : RFits fm xs := by
  cases h
  · exact .dss ‹_› ‹_› ‹_›
  · exact .dsi ‹_› ‹_›
  · exact .ssi ‹_› ‹_›
  · exact .du ‹_›
  · exact .dj ‹_›
  · exact .d ‹_›
  · exact .s ‹_›
/-- which ops have which form, as the law asks it -/
theorem op_read : ∀ n, n < 38 → ∀ p : Str × Str, opsT[n]? = some p → (inV (.str p.1) [.str "get", .str "put", .str "exit"] = decide (p.2 = "d" ∨ p.2 = "s") ∧ (p.1 = "lui" ↔ p.2 = "du") ∧ (p.1 = "jal" ↔ p.2 = "dj") ∧ (n + 1 < 14 ↔ p.2 = "dss")) := by
  have h : ∀ n, n < 38 → (match opsT[n]? with | some p => decide (inV (.str p.1) [.str "get", .str "put", .str "exit"] = decide (p.2 = "d" ∨ p.2 = "s") ∧ (p.1 = "lui" ↔ p.2 = "du") ∧ (p.1 = "jal" ↔ p.2 = "dj") ∧ (n + 1 < 14 ↔ p.2 = "dss")) | none => true) = true := by decide +kernel
  intro n hn p e
  have := h n hn
  rw [e] at this
  exact of_decide_eq_true this
section
variable {P : Program} {w : World} {K : PySem.W.Frag} {mg : Str → Option Value} {base : Heap}
theorem ok_law_wordS (b_len : mg "len" = none) (b_int : mg "int" = none) (c_law_ops : Cd P w K mg base 1 "_law_ops" spOps) (Z : St1 K mg "_law_word" s_law_word ["row"]) : Cd P w K mg base 2 "_law_word" (spWordS K) := by
  refine Z.cd sc_law_word (fun vs H Q E h => by obtain ⟨t, n, op, fm, xs, rfl, _⟩ := h; rfl) (fun f cdv A outer s H vs Q E hr h => ?_)
  obtain ⟨t, n, op, fm, xs, rfl, ht, hi, hf, q⟩ := h
  have hn : n < 38 := (List.getElem?_eq_some_iff.mp hi).1
  obtain ⟨at1, at2⟩ := first_at hi
  have of := (op_dss n hn _ hi).1
  refine ⟨_, (pss_cons (ps_set (i := 1) sc_law_word.nd rfl (.inl rfl) (pe_op op_add (pe_op op_mul (pe_op op_add (pe_bm PySem.F.plainAttrs_list PySem.F.slot_list_index PySem.F.type_list_index mt_index (pe_cd0 c_law_ops hr (by first | decide | omega) (by rfl)) (pa_cons (pe_ix ix_tup (pv 0) pe_int (fun _ _ => rfl)) pa_nil)) pe_int) (pe_op op_pow pe_int pe_int)) (pe_op op_mul (pe_ix ix_tup (pv 0) pe_int (fun _ _ => rfl)) (pe_op op_pow pe_int pe_int))))
      (pss_cons (ps_if (pt_cmpR op_eq (pe_callB call_lenQ (by rfl) b_len PySem.boot_len (pa_cons (pv 0) pa_nil)) pe_int (nomark _)) (pss_one (ps_ret (pv 1))) pss_nil)
      (pss_cons (ps_if (pt_cmpR op_eq (pe_callB call_lenQ (by rfl) b_len PySem.boot_len (pa_cons (pv 0) pa_nil)) pe_int (nomark _)) (pss_one (ps_ret (pe_op op_add (pv 1) (pe_op op_mod (pe_callTy call_intQ (by rfl) b_int (by decide +kernel) (pa_cons (pe_ix ix_tup (pv 0) pe_int (fun _ _ => rfl)) pa_nil)) (pe_op op_pow pe_int pe_int))))) pss_nil)
      (pss_cons (ps_if (pt_cmpR op_lt (pe_bm PySem.F.plainAttrs_list PySem.F.slot_list_index PySem.F.type_list_index mt_index (pe_cd0 c_law_ops hr (by first | decide | omega) (by rfl)) (pa_cons (pe_ix ix_tup (pv 0) pe_int (fun _ _ => rfl)) pa_nil)) pe_int (nomark _)) (pss_one (ps_ret (pe_op op_add (pe_op op_add (pv 1) (pe_op op_mul (pe_ix ix_tup (pv 0) pe_int (fun _ _ => rfl)) (pe_op op_pow pe_int pe_int))) (pe_op op_mul (pe_ix ix_tup (pv 0) pe_int (fun _ _ => rfl)) (pe_op op_pow pe_int pe_int))))) pss_nil)
      (pss_one (ps_ret (pe_op op_add (pe_op op_add (pv 1) (pe_op op_mul (pe_ix ix_tup (pv 0) pe_int (fun _ _ => rfl)) (pe_op op_pow pe_int pe_int))) (pe_op op_mod (pe_callTy call_intQ (by rfl) b_int (by decide +kernel) (pa_cons (pe_ix ix_tup (pv 0) pe_int (fun _ _ => rfl)) pa_nil)) (pe_op op_pow pe_int pe_int))))))))), ?_⟩
  (with_reducible refine w_seq ?_)
  (with_reducible refine w_asg ?_)
  (with_reducible refine w_op ?_)
  (with_reducible refine w_op ?_)
  (with_reducible refine w_op ?_)
  (with_reducible refine w_bm ?_)
  (with_reducible refine w_call ?_)
  (with_reducible refine w_nil ?_)
  refine ⟨rfl, fun p H1 np sm hp => ?_⟩
  ((with_reducible refine' w_tyL ?hh ?_); (case hh => assumption))
  (with_reducible refine w_cons ?_)
  (with_reducible refine w_op ?_)
  ((with_reducible refine' w_var ?hv ?_); (case hv => exact rfl))
  (with_reducible refine w_c ?_)
  refine w_ixTs (sm.sqT ht) (atI_of (v := .str op) (by decide) rfl) ?_
  (with_reducible refine w_nil ?_)
  refine w_lix hp at1 at2 ?_
  (with_reducible refine w_c ?_)
  (with_reducible refine w_I0 ?_)
  (with_reducible refine w_op ?_)
  (with_reducible refine w_c ?_)
  (with_reducible refine w_c ?_)
  (with_reducible refine w_p26 ?_)
  ((with_reducible refine w_I ?hc ?_); (case hc => walk_at "side"))
  (with_reducible refine w_op ?_)
  (with_reducible refine w_op ?_)
  ((with_reducible refine' w_var ?hv ?_); (case hv => exact rfl))
  (with_reducible refine w_c ?_)
  have key : ∀ (a : Int) (r : List Int), xs = a :: r → R16 a := by
    intro a r e
    cases hf <;> (cases e; assumption)
  cases hf with
  | dss ha hb hc =>
    rename_i a b c
    have hn13 := of.mp rfl
    unfold R16 at ha hb hc
    refine w_ixTs (sm.sqT ht) (atI_of (v := .int a) (by decide) rfl) ?_
    (with_reducible refine w_op ?_)
    (with_reducible refine w_c ?_)
    (with_reducible refine w_c ?_)
    (with_reducible refine w_p22 ?_)
    ((with_reducible refine w_I ?hc ?_); (case hc => walk_at "side"))
    (with_reducible refine w_I0 ?_)
    (with_reducible refine w_name ?_)
    (with_reducible refine w_seq ?_)
    (with_reducible refine w_ifS ?_)
    (with_reducible refine w_test ?_)
    (with_reducible refine w_op ?_)
    (with_reducible refine w_cb ?_)
    (with_reducible refine w_cons ?_)
    ((with_reducible refine' w_var ?hv ?_); (case hv => exact rfl))
    (with_reducible refine w_nil ?_)
    refine w_lenTn 4 (sm.sqT ht) rfl ?_
    (with_reducible refine w_c ?_)
    (with_reducible refine w_eqI ?_)
    (with_reducible refine w_bl ?_)
    (refine w_decF ?hd ?_; (case hd => decide))
    (with_reducible refine w_next ?_)
    (with_reducible refine w_seq ?_)
    (with_reducible refine w_ifS ?_)
    (with_reducible refine w_test ?_)
    (with_reducible refine w_op ?_)
    (with_reducible refine w_cb ?_)
    (with_reducible refine w_cons ?_)
    ((with_reducible refine' w_var ?hv ?_); (case hv => exact rfl))
    (with_reducible refine w_nil ?_)
    refine w_lenTn 4 (sm.sqT ht) rfl ?_
    (with_reducible refine w_c ?_)
    (with_reducible refine w_eqI ?_)
    (with_reducible refine w_bl ?_)
    (refine w_decF ?hd ?_; (case hd => decide))
    (with_reducible refine w_next ?_)
    (with_reducible refine w_seq ?_)
    (with_reducible refine w_ifS ?_)
    (with_reducible refine w_test ?_)
    (with_reducible refine w_op ?_)
    (with_reducible refine w_bm ?_)
    (with_reducible refine w_call ?_)
    (with_reducible refine w_nil ?_)
    refine ⟨rfl, fun p2 H2 np2 sm2 hp2 => ?_⟩
    have ht2 := (sm.trans sm2).sqT ht
    ((with_reducible refine' w_tyL ?hh ?_); (case hh => assumption))
    (with_reducible refine w_cons ?_)
    (with_reducible refine w_op ?_)
    ((with_reducible refine' w_var ?hv ?_); (case hv => exact rfl))
    (with_reducible refine w_c ?_)
    refine w_ixTs ht2 (atI_of (v := .str op) (by decide) rfl) ?_
    (with_reducible refine w_nil ?_)
    refine w_lix hp2 at1 at2 ?_
    (with_reducible refine w_c ?_)
    (with_reducible refine w_I0 ?_)
    (with_reducible refine w_bl ?_)
    refine w_decT (by omega) ?_
    (with_reducible refine w_ret ?_)
    (with_reducible refine w_op ?_)
    (with_reducible refine w_op ?_)
    ((with_reducible refine' w_var ?hv ?_); (case hv => exact rfl))
    (with_reducible refine w_op ?_)
    (with_reducible refine w_op ?_)
    ((with_reducible refine' w_var ?hv ?_); (case hv => exact rfl))
    (with_reducible refine w_c ?_)
    refine w_ixTs ht2 (atI_of (v := .int b) (by decide) rfl) ?_
    (with_reducible refine w_op ?_)
    (with_reducible refine w_c ?_)
    (with_reducible refine w_c ?_)
    (with_reducible refine w_p18 ?_)
    ((with_reducible refine w_I ?hc ?_); (case hc => walk_at "side"))
    (with_reducible refine w_I0 ?_)
    (with_reducible refine w_op ?_)
    (with_reducible refine w_op ?_)
    ((with_reducible refine' w_var ?hv ?_); (case hv => exact rfl))
    (with_reducible refine w_c ?_)
    refine w_ixTs ht2 (atI_of (v := .int c) (by decide) rfl) ?_
    (with_reducible refine w_op ?_)
    (with_reducible refine w_c ?_)
    (with_reducible refine w_c ?_)
    (with_reducible refine w_p14 ?_)
    ((with_reducible refine w_I ?hc ?_); (case hc => walk_at "side"))
    (with_reducible refine w_I0 ?_)
    have e := q H2 (sm.trans sm2)
    rw [enc_dss] at e
    exact e
  | dsi ha hb =>
    rename_i a b c
    have hn13 : ¬ n < 13 := fun z => absurd (of.mpr z) (by show ¬ (("dsi" : Str) = "dss"); decide)
    unfold R16 at ha hb
    refine w_ixTs (sm.sqT ht) (atI_of (v := .int a) (by decide) rfl) ?_
    (with_reducible refine w_op ?_)
    (with_reducible refine w_c ?_)
    (with_reducible refine w_c ?_)
    (with_reducible refine w_p22 ?_)
    ((with_reducible refine w_I ?hc ?_); (case hc => walk_at "side"))
    (with_reducible refine w_I0 ?_)
    (with_reducible refine w_name ?_)
    (with_reducible refine w_seq ?_)
    (with_reducible refine w_ifS ?_)
    (with_reducible refine w_test ?_)
    (with_reducible refine w_op ?_)
    (with_reducible refine w_cb ?_)
    (with_reducible refine w_cons ?_)
    ((with_reducible refine' w_var ?hv ?_); (case hv => exact rfl))
    (with_reducible refine w_nil ?_)
    refine w_lenTn 4 (sm.sqT ht) rfl ?_
    (with_reducible refine w_c ?_)
    (with_reducible refine w_eqI ?_)
    (with_reducible refine w_bl ?_)
    (refine w_decF ?hd ?_; (case hd => decide))
    (with_reducible refine w_next ?_)
    (with_reducible refine w_seq ?_)
    (with_reducible refine w_ifS ?_)
    (with_reducible refine w_test ?_)
    (with_reducible refine w_op ?_)
    (with_reducible refine w_cb ?_)
    (with_reducible refine w_cons ?_)
    ((with_reducible refine' w_var ?hv ?_); (case hv => exact rfl))
    (with_reducible refine w_nil ?_)
    refine w_lenTn 4 (sm.sqT ht) rfl ?_
    (with_reducible refine w_c ?_)
    (with_reducible refine w_eqI ?_)
    (with_reducible refine w_bl ?_)
    (refine w_decF ?hd ?_; (case hd => decide))
    (with_reducible refine w_next ?_)
    (with_reducible refine w_seq ?_)
    (with_reducible refine w_ifS ?_)
    (with_reducible refine w_test ?_)
    (with_reducible refine w_op ?_)
    (with_reducible refine w_bm ?_)
    (with_reducible refine w_call ?_)
    (with_reducible refine w_nil ?_)
    refine ⟨rfl, fun p2 H2 np2 sm2 hp2 => ?_⟩
    have ht2 := (sm.trans sm2).sqT ht
    ((with_reducible refine' w_tyL ?hh ?_); (case hh => assumption))
    (with_reducible refine w_cons ?_)
    (with_reducible refine w_op ?_)
    ((with_reducible refine' w_var ?hv ?_); (case hv => exact rfl))
    (with_reducible refine w_c ?_)
    refine w_ixTs ht2 (atI_of (v := .str op) (by decide) rfl) ?_
    (with_reducible refine w_nil ?_)
    refine w_lix hp2 at1 at2 ?_
    (with_reducible refine w_c ?_)
    (with_reducible refine w_I0 ?_)
    (with_reducible refine w_bl ?_)
    refine w_decF (by omega) ?_
    (with_reducible refine w_next ?_)
    (with_reducible refine w_ret ?_)
    (with_reducible refine w_op ?_)
    (with_reducible refine w_op ?_)
    ((with_reducible refine' w_var ?hv ?_); (case hv => exact rfl))
    (with_reducible refine w_op ?_)
    (with_reducible refine w_op ?_)
    ((with_reducible refine' w_var ?hv ?_); (case hv => exact rfl))
    (with_reducible refine w_c ?_)
    refine w_ixTs ht2 (atI_of (v := .int b) (by decide) rfl) ?_
    (with_reducible refine w_op ?_)
    (with_reducible refine w_c ?_)
    (with_reducible refine w_c ?_)
    (with_reducible refine w_p18 ?_)
    ((with_reducible refine w_I ?hc ?_); (case hc => walk_at "side"))
    (with_reducible refine w_I0 ?_)
    (with_reducible refine w_op ?_)
    (with_reducible refine w_cb ?_)
    (with_reducible refine w_cons ?_)
    (with_reducible refine w_op ?_)
    ((with_reducible refine' w_var ?hv ?_); (case hv => exact rfl))
    (with_reducible refine w_c ?_)
    refine w_ixTs ht2 (atI_of (v := .int c) (by decide) rfl) ?_
    (with_reducible refine w_nil ?_)
    (with_reducible refine w_int1 ?_)
    (with_reducible refine w_op ?_)
    (with_reducible refine w_c ?_)
    (with_reducible refine w_c ?_)
    (with_reducible refine w_p14 ?_)
    ((with_reducible refine w_I ?hc ?_); (case hc => walk_at "side"))
    (with_reducible refine w_I0 ?_)
    have e := q H2 (sm.trans sm2)
    rw [enc_dsi] at e
    exact e
  | ssi ha hb =>
    rename_i a b c
    have hn13 : ¬ n < 13 := fun z => absurd (of.mpr z) (by show ¬ (("ssi" : Str) = "dss"); decide)
    unfold R16 at ha hb
    refine w_ixTs (sm.sqT ht) (atI_of (v := .int a) (by decide) rfl) ?_
    (with_reducible refine w_op ?_)
    (with_reducible refine w_c ?_)
    (with_reducible refine w_c ?_)
    (with_reducible refine w_p22 ?_)
    ((with_reducible refine w_I ?hc ?_); (case hc => walk_at "side"))
    (with_reducible refine w_I0 ?_)
    (with_reducible refine w_name ?_)
    (with_reducible refine w_seq ?_)
    (with_reducible refine w_ifS ?_)
    (with_reducible refine w_test ?_)
    (with_reducible refine w_op ?_)
    (with_reducible refine w_cb ?_)
    (with_reducible refine w_cons ?_)
    ((with_reducible refine' w_var ?hv ?_); (case hv => exact rfl))
    (with_reducible refine w_nil ?_)
    refine w_lenTn 4 (sm.sqT ht) rfl ?_
    (with_reducible refine w_c ?_)
    (with_reducible refine w_eqI ?_)
    (with_reducible refine w_bl ?_)
    (refine w_decF ?hd ?_; (case hd => decide))
    (with_reducible refine w_next ?_)
    (with_reducible refine w_seq ?_)
    (with_reducible refine w_ifS ?_)
    (with_reducible refine w_test ?_)
    (with_reducible refine w_op ?_)
    (with_reducible refine w_cb ?_)
    (with_reducible refine w_cons ?_)
    ((with_reducible refine' w_var ?hv ?_); (case hv => exact rfl))
    (with_reducible refine w_nil ?_)
    refine w_lenTn 4 (sm.sqT ht) rfl ?_
    (with_reducible refine w_c ?_)
    (with_reducible refine w_eqI ?_)
    (with_reducible refine w_bl ?_)
    (refine w_decF ?hd ?_; (case hd => decide))
    (with_reducible refine w_next ?_)
    (with_reducible refine w_seq ?_)
    (with_reducible refine w_ifS ?_)
    (with_reducible refine w_test ?_)
    (with_reducible refine w_op ?_)
    (with_reducible refine w_bm ?_)
    (with_reducible refine w_call ?_)
    (with_reducible refine w_nil ?_)
    refine ⟨rfl, fun p2 H2 np2 sm2 hp2 => ?_⟩
    have ht2 := (sm.trans sm2).sqT ht
    ((with_reducible refine' w_tyL ?hh ?_); (case hh => assumption))
    (with_reducible refine w_cons ?_)
    (with_reducible refine w_op ?_)
    ((with_reducible refine' w_var ?hv ?_); (case hv => exact rfl))
    (with_reducible refine w_c ?_)
    refine w_ixTs ht2 (atI_of (v := .str op) (by decide) rfl) ?_
    (with_reducible refine w_nil ?_)
    refine w_lix hp2 at1 at2 ?_
    (with_reducible refine w_c ?_)
    (with_reducible refine w_I0 ?_)
    (with_reducible refine w_bl ?_)
    refine w_decF (by omega) ?_
    (with_reducible refine w_next ?_)
    (with_reducible refine w_ret ?_)
    (with_reducible refine w_op ?_)
    (with_reducible refine w_op ?_)
    ((with_reducible refine' w_var ?hv ?_); (case hv => exact rfl))
    (with_reducible refine w_op ?_)
    (with_reducible refine w_op ?_)
    ((with_reducible refine' w_var ?hv ?_); (case hv => exact rfl))
    (with_reducible refine w_c ?_)
    refine w_ixTs ht2 (atI_of (v := .int b) (by decide) rfl) ?_
    (with_reducible refine w_op ?_)
    (with_reducible refine w_c ?_)
    (with_reducible refine w_c ?_)
    (with_reducible refine w_p18 ?_)
    ((with_reducible refine w_I ?hc ?_); (case hc => walk_at "side"))
    (with_reducible refine w_I0 ?_)
    (with_reducible refine w_op ?_)
    (with_reducible refine w_cb ?_)
    (with_reducible refine w_cons ?_)
    (with_reducible refine w_op ?_)
    ((with_reducible refine' w_var ?hv ?_); (case hv => exact rfl))
    (with_reducible refine w_c ?_)
    refine w_ixTs ht2 (atI_of (v := .int c) (by decide) rfl) ?_
    (with_reducible refine w_nil ?_)
    (with_reducible refine w_int1 ?_)
    (with_reducible refine w_op ?_)
    (with_reducible refine w_c ?_)
    (with_reducible refine w_c ?_)
    (with_reducible refine w_p14 ?_)
    ((with_reducible refine w_I ?hc ?_); (case hc => walk_at "side"))
    (with_reducible refine w_I0 ?_)
    have e := q H2 (sm.trans sm2)
    rw [enc_ssi] at e
    exact e
  | du ha =>
    rename_i a c
    unfold R16 at ha
    refine w_ixTs (sm.sqT ht) (atI_of (v := .int a) (by decide) rfl) ?_
    (with_reducible refine w_op ?_)
    (with_reducible refine w_c ?_)
    (with_reducible refine w_c ?_)
    (with_reducible refine w_p22 ?_)
    ((with_reducible refine w_I ?hc ?_); (case hc => walk_at "side"))
    (with_reducible refine w_I0 ?_)
    (with_reducible refine w_name ?_)
    (with_reducible refine w_seq ?_)
    (with_reducible refine w_ifS ?_)
    (with_reducible refine w_test ?_)
    (with_reducible refine w_op ?_)
    (with_reducible refine w_cb ?_)
    (with_reducible refine w_cons ?_)
    ((with_reducible refine' w_var ?hv ?_); (case hv => exact rfl))
    (with_reducible refine w_nil ?_)
    refine w_lenTn 3 (sm.sqT ht) rfl ?_
    (with_reducible refine w_c ?_)
    (with_reducible refine w_eqI ?_)
    (with_reducible refine w_bl ?_)
    (refine w_decF ?hd ?_; (case hd => decide))
    (with_reducible refine w_next ?_)
    (with_reducible refine w_seq ?_)
    (with_reducible refine w_ifS ?_)
    (with_reducible refine w_test ?_)
    (with_reducible refine w_op ?_)
    (with_reducible refine w_cb ?_)
    (with_reducible refine w_cons ?_)
    ((with_reducible refine' w_var ?hv ?_); (case hv => exact rfl))
    (with_reducible refine w_nil ?_)
    refine w_lenTn 3 (sm.sqT ht) rfl ?_
    (with_reducible refine w_c ?_)
    (with_reducible refine w_eqI ?_)
    (with_reducible refine w_bl ?_)
    (refine w_decT ?hd ?_; (case hd => decide))
    (with_reducible refine w_ret ?_)
    (with_reducible refine w_op ?_)
    ((with_reducible refine' w_var ?hv ?_); (case hv => exact rfl))
    (with_reducible refine w_op ?_)
    (with_reducible refine w_cb ?_)
    (with_reducible refine w_cons ?_)
    (with_reducible refine w_op ?_)
    ((with_reducible refine' w_var ?hv ?_); (case hv => exact rfl))
    (with_reducible refine w_c ?_)
    refine w_ixTs (sm.sqT ht) (atI_of (v := .int c) (by decide) rfl) ?_
    (with_reducible refine w_nil ?_)
    (with_reducible refine w_int1 ?_)
    (with_reducible refine w_op ?_)
    (with_reducible refine w_c ?_)
    (with_reducible refine w_c ?_)
    (with_reducible refine w_p18 ?_)
    ((with_reducible refine w_I ?hc ?_); (case hc => walk_at "side"))
    (with_reducible refine w_I0 ?_)
    have e := q H1 sm
    rw [enc_du] at e
    exact e
  | dj ha =>
    rename_i a c
    unfold R16 at ha
    refine w_ixTs (sm.sqT ht) (atI_of (v := .int a) (by decide) rfl) ?_
    (with_reducible refine w_op ?_)
    (with_reducible refine w_c ?_)
    (with_reducible refine w_c ?_)
    (with_reducible refine w_p22 ?_)
    ((with_reducible refine w_I ?hc ?_); (case hc => walk_at "side"))
    (with_reducible refine w_I0 ?_)
    (with_reducible refine w_name ?_)
    (with_reducible refine w_seq ?_)
    (with_reducible refine w_ifS ?_)
    (with_reducible refine w_test ?_)
    (with_reducible refine w_op ?_)
    (with_reducible refine w_cb ?_)
    (with_reducible refine w_cons ?_)
    ((with_reducible refine' w_var ?hv ?_); (case hv => exact rfl))
    (with_reducible refine w_nil ?_)
    refine w_lenTn 3 (sm.sqT ht) rfl ?_
    (with_reducible refine w_c ?_)
    (with_reducible refine w_eqI ?_)
    (with_reducible refine w_bl ?_)
    (refine w_decF ?hd ?_; (case hd => decide))
    (with_reducible refine w_next ?_)
    (with_reducible refine w_seq ?_)
    (with_reducible refine w_ifS ?_)
    (with_reducible refine w_test ?_)
    (with_reducible refine w_op ?_)
    (with_reducible refine w_cb ?_)
    (with_reducible refine w_cons ?_)
    ((with_reducible refine' w_var ?hv ?_); (case hv => exact rfl))
    (with_reducible refine w_nil ?_)
    refine w_lenTn 3 (sm.sqT ht) rfl ?_
    (with_reducible refine w_c ?_)
    (with_reducible refine w_eqI ?_)
    (with_reducible refine w_bl ?_)
    (refine w_decT ?hd ?_; (case hd => decide))
    (with_reducible refine w_ret ?_)
    (with_reducible refine w_op ?_)
    ((with_reducible refine' w_var ?hv ?_); (case hv => exact rfl))
    (with_reducible refine w_op ?_)
    (with_reducible refine w_cb ?_)
    (with_reducible refine w_cons ?_)
    (with_reducible refine w_op ?_)
    ((with_reducible refine' w_var ?hv ?_); (case hv => exact rfl))
    (with_reducible refine w_c ?_)
    refine w_ixTs (sm.sqT ht) (atI_of (v := .int c) (by decide) rfl) ?_
    (with_reducible refine w_nil ?_)
    (with_reducible refine w_int1 ?_)
    (with_reducible refine w_op ?_)
    (with_reducible refine w_c ?_)
    (with_reducible refine w_c ?_)
    (with_reducible refine w_p18 ?_)
    ((with_reducible refine w_I ?hc ?_); (case hc => walk_at "side"))
    (with_reducible refine w_I0 ?_)
    have e := q H1 sm
    rw [enc_dj] at e
    exact e
  | d ha =>
    rename_i a
    unfold R16 at ha
    refine w_ixTs (sm.sqT ht) (atI_of (v := .int a) (by decide) rfl) ?_
    (with_reducible refine w_op ?_)
    (with_reducible refine w_c ?_)
    (with_reducible refine w_c ?_)
    (with_reducible refine w_p22 ?_)
    ((with_reducible refine w_I ?hc ?_); (case hc => walk_at "side"))
    (with_reducible refine w_I0 ?_)
    (with_reducible refine w_name ?_)
    (with_reducible refine w_seq ?_)
    (with_reducible refine w_ifS ?_)
    (with_reducible refine w_test ?_)
    (with_reducible refine w_op ?_)
    (with_reducible refine w_cb ?_)
    (with_reducible refine w_cons ?_)
    ((with_reducible refine' w_var ?hv ?_); (case hv => exact rfl))
    (with_reducible refine w_nil ?_)
    refine w_lenTn 2 (sm.sqT ht) rfl ?_
    (with_reducible refine w_c ?_)
    (with_reducible refine w_eqI ?_)
    (with_reducible refine w_bl ?_)
    (refine w_decT ?hd ?_; (case hd => decide))
    (with_reducible refine w_ret ?_)
    ((with_reducible refine' w_var ?hv ?_); (case hv => exact rfl))
    have e := q H1 sm
    rw [enc_d] at e
    exact e
  | s ha =>
    rename_i a
    unfold R16 at ha
    refine w_ixTs (sm.sqT ht) (atI_of (v := .int a) (by decide) rfl) ?_
    (with_reducible refine w_op ?_)
    (with_reducible refine w_c ?_)
    (with_reducible refine w_c ?_)
    (with_reducible refine w_p22 ?_)
    ((with_reducible refine w_I ?hc ?_); (case hc => walk_at "side"))
    (with_reducible refine w_I0 ?_)
    (with_reducible refine w_name ?_)
    (with_reducible refine w_seq ?_)
    (with_reducible refine w_ifS ?_)
    (with_reducible refine w_test ?_)
    (with_reducible refine w_op ?_)
    (with_reducible refine w_cb ?_)
    (with_reducible refine w_cons ?_)
    ((with_reducible refine' w_var ?hv ?_); (case hv => exact rfl))
    (with_reducible refine w_nil ?_)
    refine w_lenTn 2 (sm.sqT ht) rfl ?_
    (with_reducible refine w_c ?_)
    (with_reducible refine w_eqI ?_)
    (with_reducible refine w_bl ?_)
    (refine w_decT ?hd ?_; (case hd => decide))
    (with_reducible refine w_ret ?_)
    ((with_reducible refine' w_var ?hv ?_); (case hv => exact rfl))
    have e := q H1 sm
    rw [enc_s] at e
    exact e
theorem ok_law_read (b_int : mg "int" = none) (c_law_ops : Cd P w K mg base 1 "_law_ops" spOps) (c_law_word : Cd P w K mg base 2 "_law_word" (spWordS K)) (Z : St1 K mg "_law_read" s_law_read ["word"]) : Cd P w K mg base 3 "_law_read" spDec := by
  refine Z.cd sc_law_read (fun vs H Q E h => by obtain ⟨x, rfl, _⟩ := h; rfl) (fun f cdv A outer s H vs Q E hr h => ?_)
  obtain ⟨x, rfl, x0, x1, q⟩ := h
  refine ⟨_, (pss_cons (ps_set (i := 1) sc_law_read.nd rfl (.inl rfl) (pe_op op_fdiv (pv 0) pe_int))
      (pss_cons (ps_if (pt_not (pt_chain op_le op_le pe_int (pv 1) pe_int)) (pss_one (ps_ret pe_non)) pss_nil)
      (pss_cons (ps_set (i := 2) sc_law_read.nd rfl (.inl rfl) (pe_ix ix_list (pe_cd0 c_law_ops hr (by first | decide | omega) (by rfl)) (pe_op op_sub (pv 1) pe_int) (fun _ _ => rfl)))
      (pss_cons (ps_set (i := 3) sc_law_read.nd rfl (.inl rfl) (pe_op op_mod (pe_op op_fdiv (pv 0) pe_int) pe_int))
      (pss_cons (ps_set (i := 4) sc_law_read.nd rfl (.inl rfl) (pe_op op_mod (pe_op op_fdiv (pv 0) pe_int) pe_int))
      (pss_cons (ps_set (i := 5) sc_law_read.nd rfl (.inl rfl) (pe_op op_mod (pe_callTy call_intQ (by rfl) b_int (by decide +kernel) (pa_cons (pv 0) pa_nil)) pe_int))
      (pss_cons (ps_set (i := 6) sc_law_read.nd rfl (.inl rfl) (pe_op op_mod (pe_callTy call_intQ (by rfl) b_int (by decide +kernel) (pa_cons (pv 0) pa_nil)) pe_int))
      (Evl.pss_cut (ps_if (pt_cmpR op_in_seq (pv 2) (pe_lst (pa_cons pe_str (pa_cons pe_str (pa_cons pe_str pa_nil)))) rfl) (pss_one (ps_set (i := 7) sc_law_read.nd rfl (.inl rfl) (pe_tup (pa_cons (pv 2) (pa_cons (pv 3) pa_nil))))) (pss_one (ps_if (pt_cmpR op_eq (pv 2) pe_str (nomark _)) (pss_one (ps_set (i := 7) sc_law_read.nd rfl (.inl rfl) (pe_tup (pa_cons (pv 2) (pa_cons (pv 3) (pa_cons (pv 6) pa_nil)))))) (pss_one (ps_if (pt_cmpR op_eq (pv 2) pe_str (nomark _)) (pss_one (ps_set (i := 7) sc_law_read.nd rfl (.inl rfl) (pe_tup (pa_cons (pv 2) (pa_cons (pv 3) (pa_cons (pe_ifExp (pt_cmpR op_ge (pv 6) pe_int (nomark _)) (pe_op op_sub (pv 6) pe_int) (pv 6)) pa_nil)))))) (pss_one (ps_if (pt_cmpR op_lt (pv 1) pe_int (nomark _)) (pss_one (ps_set (i := 7) sc_law_read.nd rfl (.inl rfl) (pe_tup (pa_cons (pv 2) (pa_cons (pv 3) (pa_cons (pv 4) (pa_cons (pe_op op_mod (pe_op op_fdiv (pv 0) pe_int) pe_int) pa_nil))))))) (pss_one (ps_set (i := 7) sc_law_read.nd rfl (.inl rfl) (pe_tup (pa_cons (pv 2) (pa_cons (pv 3) (pa_cons (pv 4) (pa_cons (pe_ifExp (pt_cmpR op_ge (pv 5) pe_int (nomark _)) (pe_op op_sub (pv 5) pe_int) (pv 5)) pa_nil))))))))))))))
      (pss_one (ps_ret (pe_ifExp (pt_cmpR op_eq (pe_cd c_law_word hr (by first | decide | omega) (by rfl) (pa_cons (pv 7) pa_nil)) (pv 0) (nomark _)) (pv 7) pe_non))))))))))), ?_⟩
  have none_of : (x / 67108864 < 1 ∨ 38 < x / 67108864) → ∀ n op fm xs, Ins n op fm xs → encW n fm xs ≠ x := fun hx n op fm xs hi e => by
    have z := hi.fits.enc (n := n)
    rw [e] at z
    have := hi.n38
    omega
  (with_reducible refine w_seq ?_)
  (with_reducible refine w_asg ?_)
  (with_reducible refine w_op ?_)
  ((with_reducible refine' w_var ?hv ?_); (case hv => exact rfl))
  (with_reducible refine w_c ?_)
  ((with_reducible refine w_I ?hc ?_); (case hc => walk_at "side"))
  (with_reducible refine w_name ?_)
  (with_reducible refine w_seq ?_)
  (with_reducible refine w_ifS ?_)
  (with_reducible refine w_notT ?_)
  (with_reducible refine w_test ?_)
  (with_reducible refine w_chain ?_)
  (with_reducible refine w_c ?_)
  ((with_reducible refine' w_var ?hv ?_); (case hv => exact rfl))
  (with_reducible refine w_I0 ?_)
  (with_reducible refine w_bl ?_)
  refine w_dec (fun e1 => ?_) (fun e1 => ?_)
  · (with_reducible refine w_c ?_)
    (with_reducible refine w_I0 ?_)
    (with_reducible refine w_bl ?_)
    refine w_ndec (fun e2 => ?_) (fun e2 => ?_)
    · (with_reducible refine w_ret ?_)
      (with_reducible refine w_c ?_)
      exact q _ _ (Same.refl H) (.inr ⟨none_of (by omega), rfl⟩)
    · (with_reducible refine w_next ?_)
      (with_reducible refine w_seq ?_)
      (with_reducible refine w_asg ?_)
      (with_reducible refine w_op ?_)
      (with_reducible refine w_call ?_)
      (with_reducible refine w_nil ?_)
      have hn : (x / 67108864 - 1).toNat < opsT.length := by show _ < 38; omega
      have hn8 : (x / 67108864 - 1).toNat < 38 := hn
      obtain ⟨op, fm, hop⟩ : ∃ op fm, opsT[(x / 67108864 - 1).toNat]? = some (op, fm) := ⟨_, _, List.getElem?_eq_getElem hn⟩
      obtain ⟨f1, f2, f3, f4⟩ := op_read _ hn8 _ hop
      simp only at f1 f2 f3 f4
      have hfm := ops_forms _ (List.mem_of_getElem? hop)
      have hft := fits_of hfm x
      refine ⟨rfl, fun p H1 np sm hp => ?_⟩
      (with_reducible refine w_op ?_)
      ((with_reducible refine' w_var ?hv ?_); (case hv => exact rfl))
      (with_reducible refine w_c ?_)
      (with_reducible refine w_I0 ?_)
      refine w_ixL (v := .str op) hp (atI_of (by omega) (by rw [List.getElem?_map, List.getElem?_map, hop]; rfl)) ?_
      (with_reducible refine w_name ?_)
      (with_reducible refine w_seq ?_)
      (with_reducible refine w_asg ?_)
      (with_reducible refine w_op ?_)
      (with_reducible refine w_op ?_)
      ((with_reducible refine' w_var ?hv ?_); (case hv => exact rfl))
      (with_reducible refine w_c ?_)
      ((with_reducible refine w_I ?hc ?_); (case hc => walk_at "side"))
      (with_reducible refine w_c ?_)
      ((with_reducible refine w_I ?hc ?_); (case hc => walk_at "side"))
      (with_reducible refine w_name ?_)
      (with_reducible refine w_seq ?_)
      (with_reducible refine w_asg ?_)
      (with_reducible refine w_op ?_)
      (with_reducible refine w_op ?_)
      ((with_reducible refine' w_var ?hv ?_); (case hv => exact rfl))
      (with_reducible refine w_c ?_)
      ((with_reducible refine w_I ?hc ?_); (case hc => walk_at "side"))
      (with_reducible refine w_c ?_)
      ((with_reducible refine w_I ?hc ?_); (case hc => walk_at "side"))
      (with_reducible refine w_name ?_)
      (with_reducible refine w_seq ?_)
      (with_reducible refine w_asg ?_)
      (with_reducible refine w_op ?_)
      (with_reducible refine w_cb ?_)
      (with_reducible refine w_cons ?_)
      ((with_reducible refine' w_var ?hv ?_); (case hv => exact rfl))
      (with_reducible refine w_nil ?_)
      (with_reducible refine w_int1 ?_)
      (with_reducible refine w_c ?_)
      ((with_reducible refine w_I ?hc ?_); (case hc => walk_at "side"))
      (with_reducible refine w_name ?_)
      (with_reducible refine w_seq ?_)
      (with_reducible refine w_asg ?_)
      (with_reducible refine w_op ?_)
      (with_reducible refine w_cb ?_)
      (with_reducible refine w_cons ?_)
      ((with_reducible refine' w_var ?hv ?_); (case hv => exact rfl))
      (with_reducible refine w_nil ?_)
      (with_reducible refine w_int1 ?_)
      (with_reducible refine w_c ?_)
      ((with_reducible refine w_I ?hc ?_); (case hc => walk_at "side"))
      (with_reducible refine w_name ?_)
      refine Evl.q_cut (M := fun σ' H' => Same H H' ∧ ∃ (t : Addr) (v3 v4 v5 v6 : Option V), H' t = some (.tup (insV op (fieldsOf fm x))) ∧ σ' = [some (.int x), some (.int (x / 67108864)), some (.str op), v3, v4, v5, v6, some (.ref t)]) ?_ ?_
      · (with_reducible refine w_ifS ?_)
        (with_reducible refine w_test ?_)
        (with_reducible refine w_op ?_)
        ((with_reducible refine' w_var ?hv ?_); (case hv => exact rfl))
        (with_reducible refine w_lst ?_)
        (with_reducible refine w_cons ?_)
        (with_reducible refine w_c ?_)
        (with_reducible refine w_cons ?_)
        (with_reducible refine w_c ?_)
        (with_reducible refine w_cons ?_)
        (with_reducible refine w_c ?_)
        (with_reducible refine w_nil ?_)
        refine w_kLst (by show 3 ≤ sizeLine; decide) fun l H2 nl s2 hl => ?_
        refine w_inL hl rfl (by rfl) f1 ?_
        (with_reducible refine w_bl ?_)
        simp only [forms, List.mem_cons, List.not_mem_nil, or_false] at hfm
        rcases hfm with rfl | rfl | rfl | rfl | rfl | rfl | rfl
        · refine w_decF (by decide) ?_
          (with_reducible refine w_ifS ?_)
          (with_reducible refine w_test ?_)
          (with_reducible refine w_op ?_)
          ((with_reducible refine' w_var ?hv ?_); (case hv => exact rfl))
          (with_reducible refine w_c ?_)
          (with_reducible refine w_eqS ?_)
          (with_reducible refine w_bl ?_)
          refine w_decF (fun z => absurd (f2.mp z) (by decide)) ?_
          (with_reducible refine w_ifS ?_)
          (with_reducible refine w_test ?_)
          (with_reducible refine w_op ?_)
          ((with_reducible refine' w_var ?hv ?_); (case hv => exact rfl))
          (with_reducible refine w_c ?_)
          (with_reducible refine w_eqS ?_)
          (with_reducible refine w_bl ?_)
          refine w_decF (fun z => absurd (f3.mp z) (by decide)) ?_
          (with_reducible refine w_ifS ?_)
          (with_reducible refine w_test ?_)
          (with_reducible refine w_op ?_)
          ((with_reducible refine' w_var ?hv ?_); (case hv => exact rfl))
          (with_reducible refine w_c ?_)
          (with_reducible refine w_I0 ?_)
          (with_reducible refine w_bl ?_)
          refine w_decT (by have := f4.mpr rfl; omega) ?_
          (with_reducible refine w_asg ?_)
          (with_reducible refine w_tup ?_)
          (with_reducible refine w_cons ?_)
          ((with_reducible refine' w_var ?hv ?_); (case hv => exact rfl))
          (with_reducible refine w_cons ?_)
          ((with_reducible refine' w_var ?hv ?_); (case hv => exact rfl))
          (with_reducible refine w_cons ?_)
          ((with_reducible refine' w_var ?hv ?_); (case hv => exact rfl))
          (with_reducible refine w_cons ?_)
          (with_reducible refine w_op ?_)
          (with_reducible refine w_op ?_)
          ((with_reducible refine' w_var ?hv ?_); (case hv => exact rfl))
          (with_reducible refine w_c ?_)
          ((with_reducible refine w_I ?hc ?_); (case hc => walk_at "side"))
          (with_reducible refine w_c ?_)
          ((with_reducible refine w_I ?hc ?_); (case hc => walk_at "side"))
          (with_reducible refine w_nil ?_)
          refine w_kTup (by show 4 ≤ sizeLine; decide) fun t H3 nt s3 ht => ?_
          (with_reducible refine w_name ?_)
          exact ⟨sm.trans (s2.trans s3), t, _, _, _, _, by rw [ht, fld_dss]; rfl, rfl⟩
        · refine w_decF (by decide) ?_
          (with_reducible refine w_ifS ?_)
          (with_reducible refine w_test ?_)
          (with_reducible refine w_op ?_)
          ((with_reducible refine' w_var ?hv ?_); (case hv => exact rfl))
          (with_reducible refine w_c ?_)
          (with_reducible refine w_eqS ?_)
          (with_reducible refine w_bl ?_)
          refine w_decF (fun z => absurd (f2.mp z) (by decide)) ?_
          (with_reducible refine w_ifS ?_)
          (with_reducible refine w_test ?_)
          (with_reducible refine w_op ?_)
          ((with_reducible refine' w_var ?hv ?_); (case hv => exact rfl))
          (with_reducible refine w_c ?_)
          (with_reducible refine w_eqS ?_)
          (with_reducible refine w_bl ?_)
          refine w_decF (fun z => absurd (f3.mp z) (by decide)) ?_
          (with_reducible refine w_ifS ?_)
          (with_reducible refine w_test ?_)
          (with_reducible refine w_op ?_)
          ((with_reducible refine' w_var ?hv ?_); (case hv => exact rfl))
          (with_reducible refine w_c ?_)
          (with_reducible refine w_I0 ?_)
          (with_reducible refine w_bl ?_)
          refine w_decF (fun z => absurd (f4.mp (by omega)) (by decide)) ?_
          (with_reducible refine w_asg ?_)
          (with_reducible refine w_tup ?_)
          (with_reducible refine w_cons ?_)
          ((with_reducible refine' w_var ?hv ?_); (case hv => exact rfl))
          (with_reducible refine w_cons ?_)
          ((with_reducible refine' w_var ?hv ?_); (case hv => exact rfl))
          (with_reducible refine w_cons ?_)
          ((with_reducible refine' w_var ?hv ?_); (case hv => exact rfl))
          (with_reducible refine w_cons ?_)
          (with_reducible refine w_if ?_)
          (with_reducible refine w_test ?_)
          (with_reducible refine w_op ?_)
          ((with_reducible refine' w_var ?hv ?_); (case hv => exact rfl))
          (with_reducible refine w_c ?_)
          (with_reducible refine w_I0 ?_)
          (with_reducible refine w_bl ?_)
          refine w_dec (fun e3 => ?_) (fun e3 => ?_)
          · (with_reducible refine w_op ?_)
            ((with_reducible refine' w_var ?hv ?_); (case hv => exact rfl))
            (with_reducible refine w_c ?_)
            (with_reducible refine w_I0 ?_)
            (with_reducible refine w_nil ?_)
            refine w_kTup (by show 4 ≤ sizeLine; decide) fun t H3 nt s3 ht => ?_
            (with_reducible refine w_name ?_)
            exact ⟨sm.trans (s2.trans s3), t, _, _, _, _, by rw [ht, fld_dsi]; unfold sg; rw [if_pos e3]; rfl, rfl⟩
          · ((with_reducible refine' w_var ?hv ?_); (case hv => exact rfl))
            (with_reducible refine w_nil ?_)
            refine w_kTup (by show 4 ≤ sizeLine; decide) fun t H3 nt s3 ht => ?_
            (with_reducible refine w_name ?_)
            exact ⟨sm.trans (s2.trans s3), t, _, _, _, _, by rw [ht, fld_dsi]; unfold sg; rw [if_neg e3]; rfl, rfl⟩
        · refine w_decF (by decide) ?_
          (with_reducible refine w_ifS ?_)
          (with_reducible refine w_test ?_)
          (with_reducible refine w_op ?_)
          ((with_reducible refine' w_var ?hv ?_); (case hv => exact rfl))
          (with_reducible refine w_c ?_)
          (with_reducible refine w_eqS ?_)
          (with_reducible refine w_bl ?_)
          refine w_decF (fun z => absurd (f2.mp z) (by decide)) ?_
          (with_reducible refine w_ifS ?_)
          (with_reducible refine w_test ?_)
          (with_reducible refine w_op ?_)
          ((with_reducible refine' w_var ?hv ?_); (case hv => exact rfl))
          (with_reducible refine w_c ?_)
          (with_reducible refine w_eqS ?_)
          (with_reducible refine w_bl ?_)
          refine w_decF (fun z => absurd (f3.mp z) (by decide)) ?_
          (with_reducible refine w_ifS ?_)
          (with_reducible refine w_test ?_)
          (with_reducible refine w_op ?_)
          ((with_reducible refine' w_var ?hv ?_); (case hv => exact rfl))
          (with_reducible refine w_c ?_)
          (with_reducible refine w_I0 ?_)
          (with_reducible refine w_bl ?_)
          refine w_decF (fun z => absurd (f4.mp (by omega)) (by decide)) ?_
          (with_reducible refine w_asg ?_)
          (with_reducible refine w_tup ?_)
          (with_reducible refine w_cons ?_)
          ((with_reducible refine' w_var ?hv ?_); (case hv => exact rfl))
          (with_reducible refine w_cons ?_)
          ((with_reducible refine' w_var ?hv ?_); (case hv => exact rfl))
          (with_reducible refine w_cons ?_)
          ((with_reducible refine' w_var ?hv ?_); (case hv => exact rfl))
          (with_reducible refine w_cons ?_)
          (with_reducible refine w_if ?_)
          (with_reducible refine w_test ?_)
          (with_reducible refine w_op ?_)
          ((with_reducible refine' w_var ?hv ?_); (case hv => exact rfl))
          (with_reducible refine w_c ?_)
          (with_reducible refine w_I0 ?_)
          (with_reducible refine w_bl ?_)
          refine w_dec (fun e3 => ?_) (fun e3 => ?_)
          · (with_reducible refine w_op ?_)
            ((with_reducible refine' w_var ?hv ?_); (case hv => exact rfl))
            (with_reducible refine w_c ?_)
            (with_reducible refine w_I0 ?_)
            (with_reducible refine w_nil ?_)
            refine w_kTup (by show 4 ≤ sizeLine; decide) fun t H3 nt s3 ht => ?_
            (with_reducible refine w_name ?_)
            exact ⟨sm.trans (s2.trans s3), t, _, _, _, _, by rw [ht, fld_ssi]; unfold sg; rw [if_pos e3]; rfl, rfl⟩
          · ((with_reducible refine' w_var ?hv ?_); (case hv => exact rfl))
            (with_reducible refine w_nil ?_)
            refine w_kTup (by show 4 ≤ sizeLine; decide) fun t H3 nt s3 ht => ?_
            (with_reducible refine w_name ?_)
            exact ⟨sm.trans (s2.trans s3), t, _, _, _, _, by rw [ht, fld_ssi]; unfold sg; rw [if_neg e3]; rfl, rfl⟩
        · refine w_decF (by decide) ?_
          (with_reducible refine w_ifS ?_)
          (with_reducible refine w_test ?_)
          (with_reducible refine w_op ?_)
          ((with_reducible refine' w_var ?hv ?_); (case hv => exact rfl))
          (with_reducible refine w_c ?_)
          (with_reducible refine w_eqS ?_)
          (with_reducible refine w_bl ?_)
          refine w_decT (f2.mpr rfl) ?_
          (with_reducible refine w_asg ?_)
          (with_reducible refine w_tup ?_)
          (with_reducible refine w_cons ?_)
          ((with_reducible refine' w_var ?hv ?_); (case hv => exact rfl))
          (with_reducible refine w_cons ?_)
          ((with_reducible refine' w_var ?hv ?_); (case hv => exact rfl))
          (with_reducible refine w_cons ?_)
          ((with_reducible refine' w_var ?hv ?_); (case hv => exact rfl))
          (with_reducible refine w_nil ?_)
          refine w_kTup (by show 3 ≤ sizeLine; decide) fun t H3 nt s3 ht => ?_
          (with_reducible refine w_name ?_)
          exact ⟨sm.trans (s2.trans s3), t, _, _, _, _, by rw [ht, fld_du]; rfl, rfl⟩
        · refine w_decF (by decide) ?_
          (with_reducible refine w_ifS ?_)
          (with_reducible refine w_test ?_)
          (with_reducible refine w_op ?_)
          ((with_reducible refine' w_var ?hv ?_); (case hv => exact rfl))
          (with_reducible refine w_c ?_)
          (with_reducible refine w_eqS ?_)
          (with_reducible refine w_bl ?_)
          refine w_decF (fun z => absurd (f2.mp z) (by decide)) ?_
          (with_reducible refine w_ifS ?_)
          (with_reducible refine w_test ?_)
          (with_reducible refine w_op ?_)
          ((with_reducible refine' w_var ?hv ?_); (case hv => exact rfl))
          (with_reducible refine w_c ?_)
          (with_reducible refine w_eqS ?_)
          (with_reducible refine w_bl ?_)
          refine w_decT (f3.mpr rfl) ?_
          (with_reducible refine w_asg ?_)
          (with_reducible refine w_tup ?_)
          (with_reducible refine w_cons ?_)
          ((with_reducible refine' w_var ?hv ?_); (case hv => exact rfl))
          (with_reducible refine w_cons ?_)
          ((with_reducible refine' w_var ?hv ?_); (case hv => exact rfl))
          (with_reducible refine w_cons ?_)
          (with_reducible refine w_if ?_)
          (with_reducible refine w_test ?_)
          (with_reducible refine w_op ?_)
          ((with_reducible refine' w_var ?hv ?_); (case hv => exact rfl))
          (with_reducible refine w_c ?_)
          (with_reducible refine w_I0 ?_)
          (with_reducible refine w_bl ?_)
          refine w_dec (fun e3 => ?_) (fun e3 => ?_)
          · (with_reducible refine w_op ?_)
            ((with_reducible refine' w_var ?hv ?_); (case hv => exact rfl))
            (with_reducible refine w_c ?_)
            (with_reducible refine w_I0 ?_)
            (with_reducible refine w_nil ?_)
            refine w_kTup (by show 3 ≤ sizeLine; decide) fun t H3 nt s3 ht => ?_
            (with_reducible refine w_name ?_)
            exact ⟨sm.trans (s2.trans s3), t, _, _, _, _, by rw [ht, fld_dj]; unfold sg; rw [if_pos e3]; rfl, rfl⟩
          · ((with_reducible refine' w_var ?hv ?_); (case hv => exact rfl))
            (with_reducible refine w_nil ?_)
            refine w_kTup (by show 3 ≤ sizeLine; decide) fun t H3 nt s3 ht => ?_
            (with_reducible refine w_name ?_)
            exact ⟨sm.trans (s2.trans s3), t, _, _, _, _, by rw [ht, fld_dj]; unfold sg; rw [if_neg e3]; rfl, rfl⟩
        · refine w_decT (by decide) ?_
          (with_reducible refine w_asg ?_)
          (with_reducible refine w_tup ?_)
          (with_reducible refine w_cons ?_)
          ((with_reducible refine' w_var ?hv ?_); (case hv => exact rfl))
          (with_reducible refine w_cons ?_)
          ((with_reducible refine' w_var ?hv ?_); (case hv => exact rfl))
          (with_reducible refine w_nil ?_)
          refine w_kTup (by show 2 ≤ sizeLine; decide) fun t H3 nt s3 ht => ?_
          (with_reducible refine w_name ?_)
          exact ⟨sm.trans (s2.trans s3), t, _, _, _, _, by rw [ht, fld_d]; rfl, rfl⟩
        · refine w_decT (by decide) ?_
          (with_reducible refine w_asg ?_)
          (with_reducible refine w_tup ?_)
          (with_reducible refine w_cons ?_)
          ((with_reducible refine' w_var ?hv ?_); (case hv => exact rfl))
          (with_reducible refine w_cons ?_)
          ((with_reducible refine' w_var ?hv ?_); (case hv => exact rfl))
          (with_reducible refine w_nil ?_)
          refine w_kTup (by show 2 ≤ sizeLine; decide) fun t H3 nt s3 ht => ?_
          (with_reducible refine w_name ?_)
          exact ⟨sm.trans (s2.trans s3), t, _, _, _, _, by rw [ht, fld_s]; rfl, rfl⟩
      · rintro σ' H2 ⟨s2, t, v3, v4, v5, v6, ht, rfl⟩
        have hins : Ins (x / 67108864 - 1).toNat op fm (fieldsOf fm x) := ⟨hop, hft⟩
        (with_reducible refine w_ret ?_)
        (with_reducible refine w_if ?_)
        (with_reducible refine w_test ?_)
        (with_reducible refine w_op ?_)
        (with_reducible refine w_call ?_)
        (with_reducible refine w_cons ?_)
        ((with_reducible refine' w_var ?hv ?_); (case hv => exact rfl))
        (with_reducible refine w_nil ?_)
        refine ⟨t, _, op, fm, fieldsOf fm x, rfl, .of ht, hop, hft.r, fun H3 s3 => ?_⟩
        ((with_reducible refine' w_var ?hv ?_); (case hv => exact rfl))
        (with_reducible refine w_eqI ?_)
        (with_reducible refine w_bl ?_)
        refine w_dec (fun e => ?_) (fun e => ?_)
        · ((with_reducible refine' w_var ?hv ?_); (case hv => exact rfl))
          exact q _ _ (s2.trans s3) (.inl ⟨_, op, fm, _, t, hins, e, rfl, s3 _ _ ht⟩)
        · (with_reducible refine w_c ?_)
          refine q _ _ (s2.trans s3) (.inr ⟨fun n op' fm' xs hi he => e ?_, rfl⟩)
          have z := hi.fits.enc (n := n)
          rw [he] at z
          have en : (x / 67108864 - 1).toNat = n := by omega
          have q2 := Option.some.inj (hi.at_.symm.trans (en ▸ hop))
          cases q2
          rw [en, z.1]
          exact he
  · (with_reducible refine w_bl ?_)
    (with_reducible refine w_nF ?_)
    (with_reducible refine w_ret ?_)
    (with_reducible refine w_c ?_)
    exact q _ _ (Same.refl H) (.inr ⟨none_of (by omega), rfl⟩)
end
end K06

open PySem.W
namespace K06
theorem sc_law_home : FnScope ["image", "address", "count", "k", "row"] ["image", "address", "count"] (defScope s_law_home) := ⟨rfl, rfl, rfl, by decide +kernel, rfl, by decide +kernel, by decide +kernel⟩
theorem sc_law_fetch : FnScope ["image", "pc", "k", "at", "row"] ["image", "pc"] (defScope s_law_fetch) := ⟨rfl, rfl, rfl, by decide +kernel, rfl, by decide +kernel, by decide +kernel⟩
/-- the index of the first segment that holds them, or -1 -/
def fnd : List Sg → Int → Int → Nat → Int
  | [], _, _, _ => -1
  | g :: r, ad, c, n => if g.lo ≤ ad ∧ ad + c ≤ g.lo + g.bs.length then n else fnd r ad c (n + 1)
theorem fnd_spec : ∀ (gs : List Sg) (ad c : Int) (k : Nat), (fnd gs ad c k = -1 ∧ ∀ g ∈ gs, ¬ Fit g ad c) ∨ ∃ (n : Nat) (g : Sg), fnd gs ad c k = ((k + n : Nat) : Int) ∧ gs[n]? = some g ∧ Fit g ad c ∧ ∀ m g', m < n → gs[m]? = some g' → ¬ Fit g' ad c
  | [], ad, c, k => .inl ⟨rfl, fun _ h => by cases h⟩
  | g :: r, ad, c, k => by
    by_cases h : g.lo ≤ ad ∧ ad + c ≤ g.lo + g.bs.length
    · exact .inr ⟨0, g, if_pos h, rfl, h, fun m _ hm => absurd hm (Nat.not_lt_zero _)⟩
    · have e : fnd (g :: r) ad c k = fnd r ad c (k + 1) := if_neg h
      rcases fnd_spec r ad c (k + 1) with ⟨h1, h2⟩ | ⟨n, g2, h1, h2, h3, h4⟩
      · refine .inl ⟨e.trans h1, fun x hx => ?_⟩
        rcases List.mem_cons.mp hx with rfl | hx
        · exact h
        · exact h2 x hx
      · refine .inr ⟨n + 1, g2, by rw [e, h1]; congr 1; omega, h2, h3, fun m g' hm hg => ?_⟩
        cases m with
        | zero => cases hg; exact h
        | succ m => exact h4 m g' (by omega) hg
theorem fnd_R (gs : List Sg) (ad c : Int) : FindR gs ad c (fnd gs ad c 0) := by
  rcases fnd_spec gs ad c 0 with h | ⟨n, g, h1, h2⟩
  · exact .inl h
  · exact .inr ⟨n, g, by rw [h1, Nat.zero_add], h2⟩
def canL (gs : List Sg) (ad c : Int) : Bool := if c = 4 ∧ ad % 4 ≠ 0 then false else !decide (fnd gs ad c 0 = -1)
theorem CanR.eq {gs : List Sg} {ad c : Int} {b : Bool} (h : CanR gs ad c b) : b = canL gs ad c := by
  rcases h with ⟨h1, h2, rfl⟩ | ⟨h1, r, hr, rfl⟩
  · exact (if_pos ⟨h1, h2⟩).symm
  · rw [hr.uniq (fnd_R gs ad c)]; exact (if_neg h1).symm
theorem canL_R (gs : List Sg) (ad c : Int) : CanR gs ad c (canL gs ad c) := by
  by_cases h : c = 4 ∧ ad % 4 ≠ 0
  · exact .inl ⟨h.1, h.2, if_pos h⟩
  · exact .inr ⟨h, _, fnd_R gs ad c, if_neg h⟩
def flg (fl : Sg → Bool) (gs : List Sg) (r : Int) : Bool := match gs[r.toNat]? with | some g => fl g | none => false
def rightB (fl : Sg → Bool) (gs : List Sg) (ad c : Int) : Bool := canL gs ad c && flg fl gs (fnd gs ad c 0)
theorem RightR.eq {fl : Sg → Bool} {gs : List Sg} {ad c : Int} {b : Bool} (h : RightR fl gs ad c b) : b = rightB fl gs ad c := by
  unfold rightB
  rcases h with ⟨h1, rfl⟩ | ⟨h1, n, g, hf, hg, rfl⟩
  · rw [← h1.eq]; rfl
  · unfold flg
    rw [← h1.eq, ← hf.uniq (fnd_R gs ad c), Int.toNat_natCast, hg]
    rfl
/-- what lies there, where something may be read -/
theorem canL_found {gs : List Sg} {ad c : Int} (h : canL gs ad c = true) : ∃ (n : Nat) (g : Sg), FindR gs ad c n ∧ gs[n]? = some g ∧ Fit g ad c ∧ fnd gs ad c 0 = n := by
  have := canL_R gs ad c
  rw [h] at this
  obtain ⟨n, g, h1, h2, h3⟩ := this.found
  exact ⟨n, g, h1, h2, h3, (fnd_R gs ad c).uniq h1⟩
def decF (x : Int) : Option (Str × List Int) :=
  if 1 ≤ x / 67108864 ∧ x / 67108864 ≤ 38 then
    match opsT[(x / 67108864 - 1).toNat]? with
    | some p => if encW (x / 67108864 - 1).toNat p.2 (fieldsOf p.2 x) = x then some (p.1, fieldsOf p.2 x) else none
    | none => none
  else none
theorem decF_some {x : Int} {n : Nat} {op fm : Str} {xs : List Int} (h : Ins n op fm xs) (e : encW n fm xs = x) : decF x = some (op, xs) := by
  have z := h.fits.enc (n := n)
  have hn := h.n38
  rw [e] at z
  have en : (x / 67108864 - 1).toNat = n := by omega
  unfold decF
  rw [if_pos (by omega), en, h.at_]
  simp only
  rw [z.1, e, if_pos rfl]
theorem decF_inv {x : Int} {op : Str} {xs : List Int} (h : decF x = some (op, xs)) : ∃ n fm, Ins n op fm xs ∧ encW n fm xs = x := by
  unfold decF at h
  split at h
  · split at h
    · rename_i p hp
      split at h
      · rename_i e
        cases h
        exact ⟨_, p.2, ⟨hp, fits_of (ops_forms _ (List.mem_of_getElem? hp)) x⟩, e⟩
      · cases h
    · cases h
  · cases h
theorem decF_none {x : Int} (h : ∀ n op fm xs, Ins n op fm xs → encW n fm xs ≠ x) : decF x = none := by
  cases e : decF x with
  | none => rfl
  | some p =>
    obtain ⟨n, fm, h1, h2⟩ := decF_inv (op := p.1) (xs := p.2) e
    exact absurd h2 (h _ _ _ _ h1)
/-- what a decoded value is on the heap -/
def RowV (H : Hp) (v : V) : Option (Str × List Int) → Prop
  | none => v = .non
  | some p => ∃ t, v = .ref t ∧ H t = some (.tup (insV p.1 p.2))
theorem DecOf.row {x : Int} {v : V} {H : Hp} (h : DecOf x v H) : RowV H v (decF x) := by
  rcases h with ⟨n, op, fm, xs, t, h1, h2, rfl, h4⟩ | ⟨h1, rfl⟩
  · rw [decF_some h1 h2]; exact ⟨t, rfl, h4⟩
  · rw [decF_none h1]; exact rfl
theorem RowV.keep {H H' : Hp} {v : V} {o : Option (Str × List Int)} (h : RowV H v o) (k : TK H H') : RowV H' v o := by
  cases o with
  | none => exact h
  | some p => obtain ⟨t, rfl, e⟩ := h; exact ⟨t, rfl, k _ _ e⟩
/-- the word at a place -/
def wdF (gs : List Sg) (pc : Int) : Int := match gs[(fnd gs pc 4 0).toNat]? with | some g => leS g.bs (pc - g.lo).toNat 4 | none => 0
def curF (gs : List Sg) (pc : Int) : Option (Str × List Int) := if rightB Sg.ex gs pc 4 = true then decF (wdF gs pc) else none
structure GOk (gs : List Sg) (ds : List Int) : Prop where
  gl : gs.length ≤ 1000
  gb : ∀ g ∈ gs, ∀ x ∈ g.bs, B8 x
  lo : ∀ g ∈ gs, 0 ≤ g.lo
  db : ∀ x ∈ ds, B8 x
  dl : ds.length ≤ 1000
theorem B8.w {x : Int} (h : B8 x) : W32 x := ⟨h.1, by have := h.2; omega⟩
theorem getD_mem {xs : List Int} {n : Nat} {P : Int → Prop} (h : ∀ x ∈ xs, P x) (h0 : P 0) : P (xs.getD n 0) := by
  rw [List.getD_eq_getElem?_getD]
  cases e : xs[n]? with
  | none => exact h0
  | some x => exact h x (List.mem_of_getElem? e)
theorem leS_bnd {bs : List Int} (h : ∀ x ∈ bs, B8 x) (off : Nat) : ∀ k : Nat, 0 ≤ leS bs off k ∧ leS bs off k < 2 ^ (8 * k)
  | 0 => ⟨Int.le_refl _, by show (0 : Int) < 2 ^ (8 * 0); decide⟩
  | k + 1 => by
    have ih := leS_bnd h off k
    have hb : B8 (bs.getD (off + k) 0) := getD_mem h ⟨by decide, by decide⟩
    have p : (0 : Int) < 2 ^ (8 * k) := Int.pow_pos (by decide)
    have e : (2 : Int) ^ (8 * (k + 1)) = 256 * 2 ^ (8 * k) := by rw [show 8 * (k + 1) = 8 * k + 8 by omega, Int.pow_add]; omega
    have u1 : 0 ≤ bs.getD (off + k) 0 * 2 ^ (8 * k) := Int.mul_nonneg hb.1 (Int.le_of_lt p)
    have u2 : bs.getD (off + k) 0 * 2 ^ (8 * k) ≤ 255 * 2 ^ (8 * k) := Int.mul_le_mul_of_nonneg_right (by have := hb.2; omega) (Int.le_of_lt p)
    show 0 ≤ leS bs off k + bs.getD (off + k) 0 * 2 ^ (8 * k) ∧ leS bs off k + bs.getD (off + k) 0 * 2 ^ (8 * k) < 2 ^ (8 * (k + 1))
    rw [e]
    omega
theorem ImAt.tk {H H' : Hp} {im sg : Addr} {gs : List Sg} (h : ImAt H im sg gs) (k : TK H H') : ImAt H' im sg gs :=
  ⟨by obtain ⟨b, sy, e⟩ := h.hi; exact ⟨b, sy, k _ _ e⟩, k _ _ h.hs, fun g hg => ⟨k _ _ (h.hg g hg).ha, k _ _ (h.hg g hg).hv⟩⟩
theorem wdF_bnd {gs : List Sg} {ds : List Int} (G : GOk gs ds) (pc : Int) : W32 (wdF gs pc) := by
  unfold wdF
  split
  · rename_i g hg
    exact leS_bnd (G.gb g (List.mem_of_getElem? hg)) _ 4
  · exact ⟨by decide, by decide⟩
def spHomeL : Sp := fun vs H Q _ => ∃ (im sg : Addr) (gs : List Sg) (ad c : Int), vs = [.ref im, .int ad, .int c] ∧ ImAt H im sg gs ∧ gs.length ≤ 1000 ∧ ∀ H', Same H H' → Q (.int (fnd gs ad c 0)) H'
def spFetch : Sp := fun vs H Q _ => ∃ (im sg : Addr) (gs : List Sg) (ds : List Int) (pc : Int), vs = [.ref im, .int pc] ∧ ImAt H im sg gs ∧ GOk gs ds ∧ W32 pc ∧ ∀ H', Same H H' → Q (.int (if rightB Sg.ex gs pc 4 = true then wdF gs pc else -1)) H'
section
variable {P : Program} {w : World} {K : PySem.W.Frag} {mg : Str → Option Value} {base : Heap}
theorem ok_law_home (b_len : mg "len" = none) (b_range : mg "range" = none) (Z : St1 K mg "_law_home" s_law_home ["image", "address", "count"]) : Cd P w K mg base 1 "_law_home" spHomeL := by
  refine Z.cd sc_law_home (fun vs H Q E h => by obtain ⟨im, sg, gs, ad, c, rfl, _⟩ := h; rfl) (fun f cdv A outer s H vs Q E hr h => ?_)
  obtain ⟨im, sg, gs, ad, c, rfl, hI, hl, q⟩ := h
  refine ⟨_, (pss_cons (ps_for PassesOwn.never rfl (pi_range1 (by rfl) b_range (pa_cons (pe_callB call_lenQ (by rfl) b_len PySem.boot_len (pa_cons (pe_ix ix_tup (pv 0) pe_int (fun _ _ => rfl)) pa_nil)) pa_nil)) (pg_name (i := 3) sc_law_home.nd rfl (.inl rfl))
      (pss_cons (ps_set (i := 4) sc_law_home.nd rfl (.inl rfl) (pe_ix ix_tup (pe_ix ix_tup (pv 0) pe_int (fun _ _ => rfl)) (pv 3) (fun _ _ => rfl)))
      (pss_one (ps_if (PW.pt (pw_and (pt_cmpR op_le (pe_ix ix_tup (pv 4) pe_int (fun _ _ => rfl)) (pv 1) (nomark _)) (pw_and1 (pt_cmpR op_le (pe_op op_add (pv 1) (pv 2)) (pe_op op_add (pe_ix ix_tup (pv 4) pe_int (fun _ _ => rfl)) (pe_callB call_lenQ (by rfl) b_len PySem.boot_len (pa_cons (pe_ix ix_tup (pv 4) pe_int (fun _ _ => rfl)) pa_nil))) (nomark _))))) (pss_one (ps_ret (pv 3))) pss_nil))))
      (pss_one (ps_ret (pe_un un_neg pe_int)))), ?_⟩
  obtain ⟨b, sy, hi⟩ := hI.hi
  have hs := hI.hs
  (with_reducible refine w_seq ?_)
  (with_reducible refine w_for ?_)
  (with_reducible refine w_rng1 ?_)
  (with_reducible refine w_cons ?_)
  (with_reducible refine w_cb ?_)
  (with_reducible refine w_cons ?_)
  (with_reducible refine w_op ?_)
  ((with_reducible refine' w_var ?hv ?_); (case hv => exact rfl))
  (with_reducible refine w_c ?_)
  ((with_reducible refine' w_ixT ?hh ?ha ?_); (case hh => assumption); (case ha => exact rfl))
  (with_reducible refine w_nil ?_)
  refine w_lenT hs ?_
  (with_reducible refine w_nil ?_)
  rw [List.length_map]
  refine w_forR gs.length (fun i σ H' => H' = H ∧ (∀ m g', m < i → gs[m]? = some g' → ¬ Fit g' ad c) ∧ ∃ x1 x2 : Option V, σ = [some (.ref im), some (.int ad), some (.int c), x1, x2]) rfl (by omega) ⟨rfl, fun m g' h => absurd h (Nat.not_lt_zero _), _, _, rfl⟩ (fun i σ H' hi' h => ?_) (fun σ H' h => ?_)
  · obtain ⟨rfl, no, x1, x2, rfl⟩ := h
    obtain ⟨g, eg⟩ : ∃ g, gs[i]? = some g := ⟨_, List.getElem?_eq_getElem hi'⟩
    have G := hI.hg g (List.mem_of_getElem? eg)
    have ga := G.ha
    have gv := G.hv
    (with_reducible refine w_name ?_)
    (with_reducible refine w_seq ?_)
    (with_reducible refine w_asg ?_)
    (with_reducible refine w_op ?_)
    (with_reducible refine w_op ?_)
    ((with_reducible refine' w_var ?hv ?_); (case hv => exact rfl))
    (with_reducible refine w_c ?_)
    ((with_reducible refine' w_ixT ?hh ?ha ?_); (case hh => assumption); (case ha => exact rfl))
    ((with_reducible refine' w_var ?hv ?_); (case hv => exact rfl))
    refine w_ixT hs (atI_nat (v := .ref g.a) (by rw [List.getElem?_map, eg]; rfl)) ?_
    (with_reducible refine w_name ?_)
    (with_reducible refine w_ifS ?_)
    (with_reducible refine w_andT ?_)
    (with_reducible refine w_test ?_)
    (with_reducible refine w_op ?_)
    (with_reducible refine w_op ?_)
    ((with_reducible refine' w_var ?hv ?_); (case hv => exact rfl))
    (with_reducible refine w_c ?_)
    ((with_reducible refine' w_ixT ?hh ?ha ?_); (case hh => assumption); (case ha => exact rfl))
    ((with_reducible refine' w_var ?hv ?_); (case hv => exact rfl))
    (with_reducible refine w_I0 ?_)
    (with_reducible refine w_bl ?_)
    have nofit : ¬ Fit g ad c → ∀ m g', m < i + 1 → gs[m]? = some g' → ¬ Fit g' ad c := fun hn m g' hm e => by
      rcases Nat.lt_succ_iff_lt_or_eq.mp hm with z | z
      · exact no m g' z e
      · subst z; rw [eg] at e; cases e; exact hn
    refine w_dec (fun e1 => ?_) (fun e1 => ?_)
    · (with_reducible refine w_test ?_)
      (with_reducible refine w_op ?_)
      (with_reducible refine w_op ?_)
      ((with_reducible refine' w_var ?hv ?_); (case hv => exact rfl))
      ((with_reducible refine' w_var ?hv ?_); (case hv => exact rfl))
      (with_reducible refine w_I0 ?_)
      (with_reducible refine w_op ?_)
      (with_reducible refine w_op ?_)
      ((with_reducible refine' w_var ?hv ?_); (case hv => exact rfl))
      (with_reducible refine w_c ?_)
      ((with_reducible refine' w_ixT ?hh ?ha ?_); (case hh => assumption); (case ha => exact rfl))
      (with_reducible refine w_cb ?_)
      (with_reducible refine w_cons ?_)
      (with_reducible refine w_op ?_)
      ((with_reducible refine' w_var ?hv ?_); (case hv => exact rfl))
      (with_reducible refine w_c ?_)
      ((with_reducible refine' w_ixT ?hh ?ha ?_); (case hh => assumption); (case ha => exact rfl))
      (with_reducible refine w_nil ?_)
      refine w_lenT gv ?_
      rw [List.length_map]
      (with_reducible refine w_I0 ?_)
      (with_reducible refine w_I0 ?_)
      (with_reducible refine w_bl ?_)
      refine w_dec (fun e2 => ?_) (fun e2 => ?_)
      · (with_reducible refine w_ret ?_)
        ((with_reducible refine' w_var ?hv ?_); (case hv => exact rfl))
        have hF : FindR gs ad c (i : Nat) := .inr ⟨i, g, rfl, eg, ⟨e1, e2⟩, no⟩
        have := q H' (Same.refl _)
        rw [← hF.uniq (fnd_R gs ad c)] at this
        exact this
      · (with_reducible refine w_next ?_)
        exact ⟨rfl, nofit fun h => e2 h.2, _, _, rfl⟩
    · (with_reducible refine w_itF ?_)
      (with_reducible refine w_next ?_)
      exact ⟨rfl, nofit fun h => e1 h.1, _, _, rfl⟩
  · obtain ⟨rfl, no, x1, x2, rfl⟩ := h
    (with_reducible refine w_ret ?_)
    (with_reducible refine w_un ?_)
    (with_reducible refine w_c ?_)
    (with_reducible refine w_U ?_)
    have hF : FindR gs ad c (-1) := .inl ⟨rfl, fun g hg => by
      obtain ⟨n, hn, e⟩ := List.getElem_of_mem hg
      exact no n g hn (by rw [List.getElem?_eq_getElem hn, e])⟩
    have := q H' (Same.refl _)
    rw [← hF.uniq (fnd_R gs ad c)] at this
    exact this
theorem leS4 (bs : List Int) (off : Nat) : leS bs off 4 = bs.getD off 0 + 256 * bs.getD (off + 1) 0 + 65536 * bs.getD (off + 2) 0 + 16777216 * bs.getD (off + 3) 0 := by
  show 0 + bs.getD (off + 0) 0 * 2 ^ (8 * 0) + bs.getD (off + 1) 0 * 2 ^ (8 * 1) + bs.getD (off + 2) 0 * 2 ^ (8 * 2) + bs.getD (off + 3) 0 * 2 ^ (8 * 3) = _
  simp only [Nat.add_zero]
  have e1 : (2 : Int) ^ (8 * 0) = 1 := rfl
  have e2 : (2 : Int) ^ (8 * 1) = 256 := rfl
  have e3 : (2 : Int) ^ (8 * 2) = 65536 := rfl
  have e4 : (2 : Int) ^ (8 * 3) = 16777216 := rfl
  rw [e1, e2, e3, e4]
  omega
theorem ok_law_fetch (b_int : mg "int" = none) (c_law_home : Cd P w K mg base 1 "_law_home" spHomeL) (Z : St1 K mg "_law_fetch" s_law_fetch ["image", "pc"]) : Cd P w K mg base 2 "_law_fetch" spFetch := by
  refine Z.cd sc_law_fetch (fun vs H Q E h => by obtain ⟨im, sg, gs, ds, pc, rfl, _⟩ := h; rfl) (fun f cdv A outer s H vs Q E hr h => ?_)
  obtain ⟨im, sg, gs, ds, pc, rfl, hI, G, hpc, q⟩ := h
  refine ⟨_, (pss_cons (ps_set (i := 2) sc_law_fetch.nd rfl (.inl rfl) (pe_cd c_law_home hr (by first | decide | omega) (by rfl) (pa_cons (pv 0) (pa_cons (pv 1) (pa_cons pe_int pa_nil)))))
      (pss_cons (ps_if (PW.pt (pw_or (pt_cmpR op_lt (pv 2) pe_int (nomark _)) (pw_or (pt_cmpR op_ne (pe_op op_mod (pe_callTy call_intQ (by rfl) b_int (by decide +kernel) (pa_cons (pv 1) pa_nil)) pe_int) pe_int (nomark _)) (pw_or1 (pt_not (pt_val (pe_ix ix_tup (pe_ix ix_tup (pe_ix ix_tup (pv 0) pe_int (fun _ _ => rfl)) (pv 2) (fun _ _ => rfl)) pe_int (fun _ _ => rfl)))))))) (pss_one (ps_ret (pe_un un_neg pe_int))) pss_nil)
      (pss_cons (ps_set (i := 3) sc_law_fetch.nd rfl (.inl rfl) (pe_op op_sub (pv 1) (pe_ix ix_tup (pe_ix ix_tup (pe_ix ix_tup (pv 0) pe_int (fun _ _ => rfl)) (pv 2) (fun _ _ => rfl)) pe_int (fun _ _ => rfl))))
      (pss_cons (ps_set (i := 4) sc_law_fetch.nd rfl (.inl rfl) (pe_ix ix_tup (pe_ix ix_tup (pe_ix ix_tup (pv 0) pe_int (fun _ _ => rfl)) (pv 2) (fun _ _ => rfl)) pe_int (fun _ _ => rfl)))
      (pss_one (ps_ret (pe_op op_add (pe_op op_add (pe_op op_add (pe_ix ix_tup (pv 4) (pv 3) (fun _ _ => rfl)) (pe_op op_mul pe_int (pe_ix ix_tup (pv 4) (pe_op op_add (pv 3) pe_int) (fun _ _ => rfl)))) (pe_op op_mul pe_int (pe_ix ix_tup (pv 4) (pe_op op_add (pv 3) pe_int) (fun _ _ => rfl)))) (pe_op op_mul pe_int (pe_ix ix_tup (pv 4) (pe_op op_add (pv 3) pe_int) (fun _ _ => rfl)))))))))), ?_⟩
  (with_reducible refine w_seq ?_)
  (with_reducible refine w_asg ?_)
  (with_reducible refine w_call ?_)
  (with_reducible refine w_cons ?_)
  ((with_reducible refine' w_var ?hv ?_); (case hv => exact rfl))
  (with_reducible refine w_cons ?_)
  ((with_reducible refine' w_var ?hv ?_); (case hv => exact rfl))
  (with_reducible refine w_cons ?_)
  (with_reducible refine w_c ?_)
  (with_reducible refine w_nil ?_)
  refine ⟨im, sg, gs, pc, 4, rfl, hI, G.gl, fun H1 s1 => ?_⟩
  have hI1 := hI.same s1
  obtain ⟨b, sy, hi⟩ := hI1.hi
  have hs := hI1.hs
  have no : rightB Sg.ex gs pc 4 = false → Q (.int (-1)) H1 := fun e => by
    have := q H1 s1
    rw [e] at this
    exact this
  (with_reducible refine w_name ?_)
  (with_reducible refine w_seq ?_)
  (with_reducible refine w_ifS ?_)
  (with_reducible refine w_orT ?_)
  (with_reducible refine w_test ?_)
  (with_reducible refine w_op ?_)
  ((with_reducible refine' w_var ?hv ?_); (case hv => exact rfl))
  (with_reducible refine w_c ?_)
  (with_reducible refine w_I0 ?_)
  (with_reducible refine w_bl ?_)
  refine w_dec (fun e1 => ?_) (fun e1 => ?_)
  · (with_reducible refine w_itT ?_)
    (with_reducible refine w_ret ?_)
    (with_reducible refine w_un ?_)
    (with_reducible refine w_c ?_)
    (with_reducible refine w_U ?_)
    refine no ?_
    unfold rightB canL
    have : fnd gs pc 4 0 = -1 := by
      rcases fnd_spec gs pc 4 0 with h | ⟨n, g, h1, _⟩
      · exact h.1
      · omega
    rw [this]
    simp
  · (with_reducible refine w_orT ?_)
    (with_reducible refine w_test ?_)
    (with_reducible refine w_op ?_)
    (with_reducible refine w_op ?_)
    (with_reducible refine w_cb ?_)
    (with_reducible refine w_cons ?_)
    ((with_reducible refine' w_var ?hv ?_); (case hv => exact rfl))
    (with_reducible refine w_nil ?_)
    (with_reducible refine w_int1 ?_)
    (with_reducible refine w_c ?_)
    ((with_reducible refine w_I ?hc ?_); (case hc => walk_at "side"))
    (with_reducible refine w_c ?_)
    (with_reducible refine w_neI ?_)
    (with_reducible refine w_bl ?_)
    refine w_ndec (fun e2 => ?_) (fun e2 => ?_)
    · (with_reducible refine w_itT ?_)
      (with_reducible refine w_ret ?_)
      (with_reducible refine w_un ?_)
      (with_reducible refine w_c ?_)
      (with_reducible refine w_U ?_)
      refine no ?_
      unfold rightB canL
      rw [if_pos ⟨rfl, e2⟩]
      rfl
    · have hc : canL gs pc 4 = true := by
        unfold canL
        rw [if_neg (fun h => h.2 e2)]
        simp
        omega
      obtain ⟨n, g, hF, hg, hfit, en⟩ := canL_found hc
      have G1 := hI1.hg g (List.mem_of_getElem? hg)
      have ga := G1.ha
      have gv := G1.hv
      rw [en]
      have xg : atI (gs.map fun g => V.ref g.a) ((n : Nat) : Int) = some (.ref g.a) := atI_nat (by rw [List.getElem?_map, hg]; rfl)
      (with_reducible refine w_notT ?_)
      (with_reducible refine w_B ?_)
      (with_reducible refine w_op ?_)
      (with_reducible refine w_op ?_)
      (with_reducible refine w_op ?_)
      ((with_reducible refine' w_var ?hv ?_); (case hv => exact rfl))
      (with_reducible refine w_c ?_)
      ((with_reducible refine' w_ixT ?hh ?ha ?_); (case hh => assumption); (case ha => exact rfl))
      ((with_reducible refine' w_var ?hv ?_); (case hv => exact rfl))
      refine w_ixT hs xg ?_
      (with_reducible refine w_c ?_)
      ((with_reducible refine' w_ixT ?hh ?ha ?_); (case hh => assumption); (case ha => exact rfl))
      (with_reducible refine w_bl ?_)
      have er : rightB Sg.ex gs pc 4 = g.ex := by
        unfold rightB flg
        rw [hc, en, Int.toNat_natCast, hg]
        rfl
      cases ex : g.ex with
      | false =>
        rw [ex] at ga
        (with_reducible refine w_nF ?_)
        (with_reducible refine w_ret ?_)
        (with_reducible refine w_un ?_)
        (with_reducible refine w_c ?_)
        (with_reducible refine w_U ?_)
        exact no (er.trans ex)
      | true =>
        rw [ex] at ga
        have eo : pc - g.lo = (((pc - g.lo).toNat : Nat) : Int) := by unfold Fit at hfit; omega
        have hl : (pc - g.lo).toNat + 4 ≤ g.bs.length := by unfold Fit at hfit; omega
        have wq : wdF gs pc = leS g.bs (pc - g.lo).toNat 4 := by unfold wdF; rw [en, Int.toNat_natCast, hg]
        have qq := q H1 s1
        rw [er.trans ex, if_pos rfl, wq, leS4] at qq
        generalize (pc - g.lo).toNat = off at *
        have bx : ∀ j : Nat, j < 4 → atI (g.bs.map V.int) ((off : Int) + (j : Int)) = some (.int (g.bs.getD (off + j) 0)) := fun j hj => by
          have hk : off + j < g.bs.length := by omega
          rw [show (off : Int) + (j : Int) = ((off + j : Nat) : Int) by omega]
          refine atI_nat ?_
          rw [List.getElem?_map, List.getElem?_eq_getElem hk, List.getD_eq_getElem?_getD, List.getElem?_eq_getElem hk]
          rfl
        (with_reducible refine w_nT ?_)
        (with_reducible refine w_next ?_)
        (with_reducible refine w_seq ?_)
        (with_reducible refine w_asg ?_)
        (with_reducible refine w_op ?_)
        ((with_reducible refine' w_var ?hv ?_); (case hv => exact rfl))
        (with_reducible refine w_op ?_)
        (with_reducible refine w_op ?_)
        (with_reducible refine w_op ?_)
        ((with_reducible refine' w_var ?hv ?_); (case hv => exact rfl))
        (with_reducible refine w_c ?_)
        ((with_reducible refine' w_ixT ?hh ?ha ?_); (case hh => assumption); (case ha => exact rfl))
        ((with_reducible refine' w_var ?hv ?_); (case hv => exact rfl))
        refine w_ixT hs xg ?_
        (with_reducible refine w_c ?_)
        ((with_reducible refine' w_ixT ?hh ?ha ?_); (case hh => assumption); (case ha => exact rfl))
        (with_reducible refine w_I0 ?_)
        (with_reducible refine w_name ?_)
        (with_reducible refine w_seq ?_)
        (with_reducible refine w_asg ?_)
        (with_reducible refine w_op ?_)
        (with_reducible refine w_op ?_)
        (with_reducible refine w_op ?_)
        ((with_reducible refine' w_var ?hv ?_); (case hv => exact rfl))
        (with_reducible refine w_c ?_)
        ((with_reducible refine' w_ixT ?hh ?ha ?_); (case hh => assumption); (case ha => exact rfl))
        ((with_reducible refine' w_var ?hv ?_); (case hv => exact rfl))
        rw [eo]
        refine w_ixT hs xg ?_
        (with_reducible refine w_c ?_)
        ((with_reducible refine' w_ixT ?hh ?ha ?_); (case hh => assumption); (case ha => exact rfl))
        (with_reducible refine w_name ?_)
        (with_reducible refine w_ret ?_)
        (with_reducible refine w_op ?_)
        (with_reducible refine w_op ?_)
        (with_reducible refine w_op ?_)
        (with_reducible refine w_op ?_)
        ((with_reducible refine' w_var ?hv ?_); (case hv => exact rfl))
        ((with_reducible refine' w_var ?hv ?_); (case hv => exact rfl))
        refine w_ixT gv (by have := bx 0 (by decide); rw [show ((0 : Nat) : Int) = 0 from rfl, Int.add_zero, Nat.add_zero] at this; exact this) ?_
        (with_reducible refine w_op ?_)
        (with_reducible refine w_c ?_)
        (with_reducible refine w_op ?_)
        ((with_reducible refine' w_var ?hv ?_); (case hv => exact rfl))
        (with_reducible refine w_op ?_)
        ((with_reducible refine' w_var ?hv ?_); (case hv => exact rfl))
        (with_reducible refine w_c ?_)
        (with_reducible refine w_I0 ?_)
        refine w_ixT gv (bx 1 (by decide)) ?_
        ((with_reducible refine w_I ?hc ?_); (case hc => walk_at "side"))
        (with_reducible refine w_I0 ?_)
        (with_reducible refine w_op ?_)
        (with_reducible refine w_c ?_)
        (with_reducible refine w_op ?_)
        ((with_reducible refine' w_var ?hv ?_); (case hv => exact rfl))
        (with_reducible refine w_op ?_)
        ((with_reducible refine' w_var ?hv ?_); (case hv => exact rfl))
        (with_reducible refine w_c ?_)
        (with_reducible refine w_I0 ?_)
        refine w_ixT gv (bx 2 (by decide)) ?_
        ((with_reducible refine w_I ?hc ?_); (case hc => walk_at "side"))
        (with_reducible refine w_I0 ?_)
        (with_reducible refine w_op ?_)
        (with_reducible refine w_c ?_)
        (with_reducible refine w_op ?_)
        ((with_reducible refine' w_var ?hv ?_); (case hv => exact rfl))
        (with_reducible refine w_op ?_)
        ((with_reducible refine' w_var ?hv ?_); (case hv => exact rfl))
        (with_reducible refine w_c ?_)
        (with_reducible refine w_I0 ?_)
        refine w_ixT gv (bx 3 (by decide)) ?_
        ((with_reducible refine w_I ?hc ?_); (case hc => walk_at "side"))
        (with_reducible refine w_I0 ?_)
        exact qq
end
end K06

open PySem.W
namespace K06
local macro_rules | `(tactic| walk_at "w1") => `(tactic| first
  | (with_reducible refine w_hex ?_)
  | (with_reducible refine w_fmt ?_)
  | (with_reducible refine w_J ?_)
  | (with_reducible refine w_Js ?_)
  | (with_reducible refine w_Js0 ?_)
  | (with_reducible refine w_isNN ?_)
  | (with_reducible refine w_isNR ?_)
  | (with_reducible refine w_m1 ?_)
  | (with_reducible refine w_isS ?_))
theorem sc_show_instruction : FnScope ["instruction", "op", "shown", "kind", "operand"] ["instruction"] (defScope s_show_instruction) := ⟨rfl, rfl, rfl, by decide +kernel, rfl, by decide +kernel, by decide +kernel⟩
theorem sc_show_operand : FnScope ["kind", "operand"] ["kind", "operand"] (defScope s_show_operand) := ⟨rfl, rfl, rfl, by decide +kernel, rfl, by decide +kernel, by decide +kernel⟩
theorem sc_show_place : FnScope ["image", "address"] ["image", "address"] (defScope s_show_place) := ⟨rfl, rfl, rfl, by decide +kernel, rfl, by decide +kernel, by decide +kernel⟩
theorem sc_show_word : FnScope ["image", "address", "word", "instruction"] ["image", "address"] (defScope s_show_word) := ⟨rfl, rfl, rfl, by decide +kernel, rfl, by decide +kernel, by decide +kernel⟩
theorem sc_law_hexadecimal : FnScope ["value", "text", "k"] ["value"] (defScope s_law_hexadecimal) := ⟨rfl, rfl, rfl, by decide +kernel, rfl, by decide +kernel, by decide +kernel⟩
theorem sc_law_text : FnScope ["row", "at", "many", "texts", "k"] ["row"] (defScope s_law_text) := ⟨rfl, rfl, rfl, by decide +kernel, rfl, by decide +kernel, by decide +kernel⟩
theorem sc_law_line : FnScope ["image", "at", "word", "row"] ["image", "at"] (defScope s_law_line) := ⟨rfl, rfl, rfl, by decide +kernel, rfl, by decide +kernel, by decide +kernel⟩
/-! ### instructions as texts -/
def opT (c : Nat) (x : Int) : Str := if c = 100 ∨ c = 115 then ("r" : Str) ++ dcT x else dcT x
def opsTx (fm : Str) (xs : List Int) : List Str := (fm.cps.toList.zip xs).map fun p => opT p.1 p.2
def insT (op fm : Str) (xs : List Int) : Str := op ++ (" " : Str) ++ Txt.join (", " : Str) (opsTx fm xs)
def fmOf (op : Str) : Str := match opsT.find? (fun p => decide (p.1 = op)) with | some p => p.2 | none => ""
theorem fmOf_all : ∀ p ∈ opsT, fmOf p.1 = p.2 := by decide +kernel
theorem Ins.fm {n : Nat} {op fm : Str} {xs : List Int} (h : Ins n op fm xs) : fm = fmOf op := (fmOf_all _ (List.mem_of_getElem? h.at_)).symm
def wordT (x : Int) : Str := match decF x with
  | some p => insT p.1 (fmOf p.1) p.2
  | none => ("word " : Str) ++ hexT x.toNat
def placeT (gs : List Sg) (ad : Int) : Str := if rightB Sg.ex gs ad 4 = true then wordT (wdF gs ad) else "none"
def lineT (gs : List Sg) (ad : Int) : Str := hexT ad.toNat ++ (": " : Str) ++ placeT gs ad
theorem hexT_len (n : Nat) : (hexT n).length = 8 := by
  show (hxs 8 n).toArray.size = 8
  rw [List.size_toArray, hxs_len]
theorem opT_len {c : Nat} {x : Int} (h : x.natAbs < 4294967296) : (opT c x).length ≤ 12 := by
  have := dcT_len h
  unfold opT
  split
  · rw [cat_len]; have e : ("r" : Str).length = 1 := by decide +kernel
    omega
  · omega
theorem op_len : ∀ p ∈ opsT, p.1.length ≤ 4 := by decide +kernel
def spOpd : Sp := fun vs H Q _ => ∃ (c : Nat) (x : Int), vs = [.str ⟨#[c]⟩, .int x] ∧ x.natAbs < 4294967296 ∧ Q (.str (opT c x)) H
def spShow (K : PySem.W.Frag) : Sp := fun vs H Q _ => ∃ (t : Addr) (n : Nat) (op fm : Str) (xs : List Int), vs = [.ref t] ∧ SqT K H t (insV op xs) ∧ Ins n op fm xs ∧ ∀ H', Same H H' → Q (.str (insT op fm xs)) H'
def spHexL : Sp := fun vs H Q _ => ∃ (x : Int), vs = [.int x] ∧ 0 ≤ x ∧ Q (.str (hexT x.toNat)) H
theorem join_len (a : Str) : ∀ ys : List Str, (Txt.join a ys).length ≤ (ys.map (·.length)).sum + ys.length * a.length := by
  intro ys
  rw [TL.join_eq]
  induction ys with
  | nil => rw [Str.join]; exact Nat.zero_le _
  | cons x r ih =>
    cases r with
    | nil => simp [Str.join]
    | cons y r =>
      show (x ++ a ++ Str.join a (y :: r)).length ≤ _
      rw [cat_len, cat_len]
      simp only [List.map_cons, List.sum_cons, List.length_cons] at ih ⊢
      have e : (r.length + 1 + 1) * a.length = (r.length + 1) * a.length + a.length := by rw [Nat.add_mul (r.length + 1) 1]; omega
      omega
theorem hx_all : ∀ k < 16, atI ("0123456789abcdef" : Str).cps.toList ((k : Nat) : Int) = some (hxd k) := by decide +kernel
theorem hx_at (n : Nat) : atI ("0123456789abcdef" : Str).cps.toList ((n : Int) % 16) = some (hxd n) := by
  have h := hx_all (n % 16) (Nat.mod_lt _ (by decide))
  have e : hxd (n % 16) = hxd n := by unfold hxd; rw [Nat.mod_mod]
  rw [e] at h
  exact h
def manyF (n l : Nat) : Int := if l = 1 ∨ n = 21 ∨ n = 33 then 1 else if n < 13 then 3 else 2
theorem many_all : ((List.range 38).all fun n => match opsT[n]? with
  | some p => (List.range p.2.cps.size).all fun j => decide ((p.2.cps.getD j 0 = 100 ∨ p.2.cps.getD j 0 = 115) ↔ 1 + (j : Int) ≤ manyF n p.2.cps.size)
  | none => true) = true := by decide +kernel
theorem many_ok {n : Nat} {op fm : Str} {xs : List Int} (hi : Ins n op fm xs) {j c : Nat} (h : fm.cps[j]? = some c) : (c = 100 ∨ c = 115) ↔ 1 + (j : Int) ≤ manyF n xs.length := by
  have a := List.all_eq_true.mp many_all n (List.mem_range.mpr hi.n38)
  rw [hi.at_] at a
  obtain ⟨hj, e⟩ := Array.getElem?_eq_some_iff.mp h
  have b := of_decide_eq_true (List.all_eq_true.mp a j (List.mem_range.mpr hj))
  rw [hi.fits.len.1] at b
  have g : fm.cps.getD j 0 = c := by rw [Array.getD_eq_getD_getElem?, h]; rfl
  rw [g] at b
  exact b
theorem opsTx_len {fm : Str} {xs : List Int} (h : ∀ x ∈ xs, x.natAbs < 4294967296) (h3 : xs.length ≤ 3) : ((opsTx fm xs).map (·.length)).sum + (opsTx fm xs).length * 2 ≤ 60 ∧ (Txt.join (", " : Str) (opsTx fm xs)).length ≤ 60 := by
  have l2 : (", " : Str).length = 2 := by decide +kernel
  have hn : (opsTx fm xs).length ≤ 3 := by unfold opsTx; rw [List.length_map, List.length_zip]; omega
  have hx : ∀ y ∈ opsTx fm xs, y.length ≤ 12 := fun y hy => by
    unfold opsTx at hy
    obtain ⟨p, hp, rfl⟩ := List.mem_map.mp hy
    exact opT_len (h _ (List.of_mem_zip hp).2)
  have hs : ∀ l : List Str, (∀ y ∈ l, y.length ≤ 12) → (l.map (·.length)).sum ≤ 12 * l.length := by
    intro l
    induction l with
    | nil => intro _; simp
    | cons y r ih =>
      intro h
      have := ih fun z hz => h z (List.mem_cons_of_mem _ hz)
      have := h y List.mem_cons_self
      simp only [List.map_cons, List.sum_cons, List.length_cons]
      omega
  have h1 := hs _ hx
  have h2 := join_len (", " : Str) (opsTx fm xs)
  rw [l2] at h2
  exact ⟨by omega, by omega⟩
section
variable {P : Program} {w : World} {K : PySem.W.Frag} {mg : Str → Option Value} {base : Heap}
theorem ok_show_operand (b_str : mg "str" = none) (Z : St1 K mg "_show_operand" s_show_operand ["kind", "operand"]) : Cd P w K mg base 1 "_show_operand" spOpd := by
  refine Z.cd sc_show_operand (fun vs H Q E h => by obtain ⟨c, x, rfl, _⟩ := h; rfl) (fun f cdv A outer s H vs Q E hr h => ?_)
  obtain ⟨c, x, rfl, hx, q⟩ := h
  refine ⟨_, (pss_one (ps_ret (pe_ifExp (pt_cmpR op_inSQ (pv 0) pe_str rfl) (pe_J (.cons pe_str (.cons (pe_fmt (pv 1)) .nil))) (pe_callTy call_strQ (by rfl) b_str (by decide +kernel) (pa_cons (pv 1) pa_nil))))), ?_⟩
  (with_reducible refine w_ret ?_)
  (with_reducible refine w_if ?_)
  (with_reducible refine w_test ?_)
  (with_reducible refine w_op ?_)
  ((with_reducible refine' w_var ?hv ?_); (case hv => exact rfl))
  (with_reducible refine w_c ?_)
  (with_reducible refine w_inSg ?_)
  (with_reducible refine w_bl ?_)
  refine w_dec (fun e => ?_) (fun e => ?_)
  · have e' : c = 100 ∨ c = 115 := by simpa using (show c ∈ [100, 115] from e)
    have l1 : ("r" : Str).length = 1 := by decide +kernel
    have l2 := dcT_len hx
    (with_reducible refine w_J ?_)
    (with_reducible refine w_Js ?_)
    (with_reducible refine w_c ?_)
    refine w_kJs (by rw [Str.empty_append, l1]; decide) ?_
    (with_reducible refine w_Js ?_)
    (with_reducible refine w_fmt ?_)
    ((with_reducible refine' w_var ?hv ?_); (case hv => exact rfl))
    refine w_kFmtI hx ?_
    refine w_kJs (by rw [Str.empty_append, cat_len, l1]; exact Nat.le_trans (Nat.add_le_add_left l2 1) (by decide)) ?_
    (with_reducible refine w_Js0 ?_)
    rw [Str.empty_append]
    unfold opT at q
    rw [if_pos e'] at q
    exact q
  · have e' : ¬ (c = 100 ∨ c = 115) := fun z => e (show c ∈ [100, 115] by simpa using z)
    (with_reducible refine w_cb ?_)
    (with_reducible refine w_cons ?_)
    ((with_reducible refine' w_var ?hv ?_); (case hv => exact rfl))
    (with_reducible refine w_nil ?_)
    refine w_strI hx ?_
    unfold opT at q
    rw [if_neg e'] at q
    exact q
theorem ok_show_instruction {O F : Addr} (T : Env0 K w mg O F) (b_zip : mg "zip" = none) (c_show_operand : Cd P w K mg base 1 "_show_operand" spOpd) (Z : St1 K mg "show_instruction" s_show_instruction ["instruction"]) : Cd P w K mg base 2 "show_instruction" (spShow K) := by
  obtain ⟨g_OPS, g_FORMS, g_LOW_14, g_LOW_18, ops, rows⟩ := T
  refine Z.cd sc_show_instruction (fun vs H Q E h => by obtain ⟨t, n, op, fm, xs, rfl, _⟩ := h; rfl) (fun f cdv A outer s H vs Q E hr h => ?_)
  obtain ⟨t, n, op, fm, xs, rfl, ht, hi, q⟩ := h
  have hr0 := rows (op, fm) (List.mem_of_getElem? hi.at_)
  obtain ⟨fl, f3, fb⟩ := hi.fits.len
  refine ⟨_, (pss_cons (ps_set (i := 1) sc_show_instruction.nd rfl (.inl rfl) (pe_ix ix_tup (pv 0) pe_int (fun _ _ => rfl)))
      (pss_cons (ps_setLc (i := 2) (own := [("kind", 3), ("operand", 4)]) rfl sc_show_instruction.nd rfl rfl (sw_true rfl rfl rfl (by decide +kernel)) (pi_zipST (by rfl) b_zip (pa_cons (pe_ix ix_kdict (pe_gv (by rfl) g_FORMS) (pv 1) (fun _ _ => rfl)) (pa_cons (pe_slice sl_tupA (pv 0) (po_some pe_int) po_none) pa_nil))) (blkOk_by (own := [("kind", 3), ("operand", 4)]) (N := ["instruction", "op", "shown", "kind", "operand"]) (sc := (defScope s_show_instruction)) (by decide +kernel)) (fun _ _ _ _ _ => (pg_tupK (K' := K) (n := 2) (by rfl) (by rfl) (pgs_cons (pg_name (i := 3) sc_show_instruction.nd (by rfl) (Or.inl (by rfl)) (by first | exact Or.inl rfl | exact Or.inr rfl)) (pgs_cons (pg_name (i := 4) sc_show_instruction.nd (by rfl) (Or.inl (by rfl)) (by first | exact Or.inl rfl | exact Or.inr rfl)) pgs_nil)))) (fun _ _ _ _ _ => pts_nil) (fun _ _ _ _ _ => (pe_cd c_show_operand hr (by first | decide | omega) (by rfl) (pa_cons (pv 3) (pa_cons (pv 4) pa_nil)))))
      (pss_one (ps_ret (pe_op op_addSQ (pe_op op_addSQ (pv 1) pe_str) (pe_m1 PySem.F.slot_str_join PySem.F.type_str_join mt_joinQ pe_str (pv 2))))))), ?_⟩
  (with_reducible refine w_seq ?_)
  (with_reducible refine w_asg ?_)
  (with_reducible refine w_op ?_)
  ((with_reducible refine' w_var ?hv ?_); (case hv => exact rfl))
  (with_reducible refine w_c ?_)
  refine w_ixTs ht (atI_of (v := .str op) (by decide) rfl) ?_
  (with_reducible refine w_name ?_)
  (with_reducible refine w_seq ?_)
  (with_reducible refine w_asg ?_)
  (with_reducible refine w_lc ?_)
  (with_reducible refine w_zST ?_)
  (with_reducible refine w_cons ?_)
  (with_reducible refine w_op ?_)
  (with_reducible refine w_c ?_)
  ((with_reducible refine' w_var ?hv ?_); (case hv => exact rfl))
  refine w_ixD hr0 ?_
  (with_reducible refine w_cons ?_)
  (with_reducible refine w_sl ?_)
  ((with_reducible refine' w_var ?hv ?_); (case hv => exact rfl))
  (with_reducible refine w_part ?_)
  (with_reducible refine w_c ?_)
  (with_reducible refine w_exI ?_)
  (with_reducible refine w_noPart ?_)
  obtain ⟨x0, xr, rfl⟩ : ∃ x0 xr, xs = x0 :: xr := by cases hi.fits <;> exact ⟨_, _, rfl⟩
  refine w_rSl1 ht fun p H1 np sm hp => ?_
  (with_reducible refine w_nil ?_)
  have zl : (fm.cps.toList.zip (x0 :: xr)).length = (x0 :: xr).length := by rw [List.length_zip]; simp only [Array.length_toList, fl, Nat.min_self]
  let ys : Nat → List Str := fun i => ((fm.cps.toList.zip (x0 :: xr)).take i).map fun p => opT p.1 p.2
  refine w_lcZ ((x0 :: xr).map V.int) (fun D i H' => H1 D = none ∧ Same H1 H' ∧ H' D = some (.lst ((ys i).map V.str)) ∧ (ys i).length ≤ i) (.of hp) (by rw [List.length_map]; exact fl) (fun D nD => ⟨nD, Same.new nD, upd_same, Nat.le_refl _⟩) (fun D i H' ⟨_, sm', _⟩ => .of (sm' _ _ hp)) ?_ ?_
  · rintro D i c y T H' H'' hc hy ⟨nD, sm', hD, hul⟩ nT sT hT
    obtain ⟨x, hx, rfl⟩ := map_get hy
    have hil : i < (x0 :: xr).length := (List.getElem?_eq_some_iff.mp hx).1
    have hb := fb x (List.mem_of_getElem? hx)
    have hz : (fm.cps.toList.zip (x0 :: xr))[i]? = some (c, x) := by
      rw [List.getElem?_zip_eq_some]
      exact ⟨by simpa using hc, hx⟩
    have tk := take_more hz
    have ey : ys (i + 1) = ys i ++ [opT c x] := by
      show List.map _ _ = _
      rw [tk, List.map_append]
      rfl
    ((with_reducible refine' w_gTup ?hh ?hn ?_); (case hh => assumption); (case hn => exact rfl))
    (with_reducible refine w_gCons ?_)
    (with_reducible refine w_name ?_)
    (with_reducible refine w_gCons ?_)
    (with_reducible refine w_name ?_)
    (with_reducible refine w_gNil ?_)
    refine ⟨rfl, ?_⟩
    (with_reducible refine w_yes ?_)
    (with_reducible refine w_itT ?_)
    (with_reducible refine w_call ?_)
    (with_reducible refine w_cons ?_)
    ((with_reducible refine' w_var ?hv ?_); (case hv => exact rfl))
    (with_reducible refine w_cons ?_)
    ((with_reducible refine' w_var ?hv ?_); (case hv => exact rfl))
    (with_reducible refine w_nil ?_)
    refine ⟨c, x, rfl, by omega, ?_⟩
    refine ⟨_, sT _ _ hD, by rw [List.length_map]; exact small1000 (by omega), nD, fun b o h => ?_, ?_, ?_⟩
    · rw [upd_ne (ne_of_none h nD)]; exact sT _ _ (sm' b o h)
    · rw [upd_same, ey, List.map_append]; rfl
    · rw [ey, List.length_append]; simp; omega
  · rintro D H' nD ⟨_, sm', hD, hul⟩
    have ey : ys ((x0 :: xr).map V.int).length = opsTx fm (x0 :: xr) := by
      show List.map _ _ = _
      rw [List.length_map, ← zl, List.take_length]; rfl
    rw [ey] at hD hul
    have o4 := op_len _ (List.mem_of_getElem? hi.at_)
    simp only at o4
    have l1 : (" " : Str).length = 1 := by decide +kernel
    have l2 : (", " : Str).length = 2 := by decide +kernel
    have hb3 : ∀ x ∈ x0 :: xr, x.natAbs < 4294967296 := fun x hx => by have := fb x hx; omega
    obtain ⟨js, jl⟩ := opsTx_len (fm := fm) hb3 f3
    (with_reducible refine w_name ?_)
    (with_reducible refine w_ret ?_)
    (with_reducible refine w_op ?_)
    (with_reducible refine w_op ?_)
    ((with_reducible refine' w_var ?hv ?_); (case hv => exact rfl))
    (with_reducible refine w_c ?_)
    refine w_addS (by rw [l1]; exact Nat.le_trans (Nat.add_le_add_right o4 1) (by decide)) ?_
    (with_reducible refine w_m1 ?_)
    (with_reducible refine w_c ?_)
    (with_reducible refine w_isS ?_)
    ((with_reducible refine' w_var ?hv ?_); (case hv => exact rfl))
    refine w_joinL (opsTx fm (x0 :: xr)) (.of hD) (by rw [l2]; omega) ?_
    refine w_addS (by rw [cat_len, l1]; exact Nat.le_trans (show _ ≤ 100 by omega) (by decide)) ?_
    exact q _ (sm.trans (sm'.trans (Same.refl _)))
theorem ok_law_hexadecimal (b_int : mg "int" = none) (b_range : mg "range" = none) (Z : St1 K mg "_law_hexadecimal" s_law_hexadecimal ["value"]) : Cd P w K mg base 1 "_law_hexadecimal" spHexL := by
  refine Z.cd sc_law_hexadecimal (fun vs H Q E h => by obtain ⟨x, rfl, _⟩ := h; rfl) (fun f cdv A outer s H vs Q E hr h => ?_)
  obtain ⟨x, rfl, x0, q⟩ := h
  refine ⟨_, (pss_cons (ps_set (i := 1) sc_law_hexadecimal.nd rfl (.inl rfl) pe_str)
      (pss_cons (ps_for PassesOwn.never rfl (pi_range1 (by rfl) b_range (pa_cons pe_int pa_nil)) (pg_name (i := 2) sc_law_hexadecimal.nd rfl (.inl rfl))
      (pss_cons (ps_set (i := 1) sc_law_hexadecimal.nd rfl (.inl rfl) (pe_op op_addSQ (pe_ix ix_str pe_str (pe_op op_mod (pe_callTy call_intQ (by rfl) b_int (by decide +kernel) (pa_cons (pv 0) pa_nil)) pe_int) (fun _ _ => rfl)) (pv 1)))
      (pss_one (ps_set (i := 0) sc_law_hexadecimal.nd rfl (.inl rfl) (pe_op op_fdiv (pv 0) pe_int)))))
      (pss_one (ps_ret (pv 1))))), ?_⟩
  (with_reducible refine w_seq ?_)
  (with_reducible refine w_asg ?_)
  (with_reducible refine w_c ?_)
  (with_reducible refine w_name ?_)
  (with_reducible refine w_seq ?_)
  (with_reducible refine w_for ?_)
  (with_reducible refine w_rng1 ?_)
  (with_reducible refine w_cons ?_)
  (with_reducible refine w_c ?_)
  (with_reducible refine w_nil ?_)
  obtain ⟨m, rfl⟩ := Int.eq_ofNat_of_zero_le x0
  refine w_forR 8 (fun i σ H' => H' = H ∧ ∃ u : Option V, σ = [some (.int ((m / 16 ^ i : Nat) : Int)), some (.str ⟨(hxs i m).toArray⟩), u]) rfl (by decide) ⟨rfl, none, by rw [Nat.pow_zero, Nat.div_one]; rfl⟩ (fun i σ H' hi h => ?_) (fun σ H' h => ?_)
  · obtain ⟨rfl, u, rfl⟩ := h
    (with_reducible refine w_name ?_)
    (with_reducible refine w_seq ?_)
    (with_reducible refine w_asg ?_)
    (with_reducible refine w_op ?_)
    (with_reducible refine w_op ?_)
    (with_reducible refine w_c ?_)
    (with_reducible refine w_op ?_)
    (with_reducible refine w_cb ?_)
    (with_reducible refine w_cons ?_)
    ((with_reducible refine' w_var ?hv ?_); (case hv => exact rfl))
    (with_reducible refine w_nil ?_)
    (with_reducible refine w_int1 ?_)
    (with_reducible refine w_c ?_)
    ((with_reducible refine w_I ?hc ?_); (case hc => walk_at "side"))
    refine ⟨_, _, hxd (m / 16 ^ i), rfl, rfl, by decide +kernel, hx_at _, ?_⟩
    ((with_reducible refine' w_var ?hv ?_); (case hv => exact rfl))
    have l1 : (⟨(hxs i m).toArray⟩ : Str).length = i := by show (hxs i m).toArray.size = i; rw [List.size_toArray, hxs_len]
    refine w_addS (by rw [l1]; exact Nat.le_trans (show 1 + i ≤ 100 by omega) (by decide)) ?_
    (with_reducible refine w_name ?_)
    (with_reducible refine w_asg ?_)
    (with_reducible refine w_op ?_)
    ((with_reducible refine' w_var ?hv ?_); (case hv => exact rfl))
    (with_reducible refine w_c ?_)
    ((with_reducible refine w_I ?hc ?_); (case hc => walk_at "side"))
    (with_reducible refine w_name ?_)
    have e1 : ((m / 16 ^ i : Nat) : Int) / 16 = ((m / 16 ^ (i + 1) : Nat) : Int) := by rw [Nat.pow_succ, ← Nat.div_div_eq_div_mul]; rfl
    have e2 : (⟨#[hxd (m / 16 ^ i)]⟩ : Str) ++ ⟨(hxs i m).toArray⟩ = ⟨(hxs (i + 1) m).toArray⟩ := Str.ext' (by rw [Str.cps_append]; simp [hxs])
    rw [e1, e2]
    exact ⟨rfl, _, rfl⟩
  · obtain ⟨rfl, u, rfl⟩ := h
    (with_reducible refine w_ret ?_)
    ((with_reducible refine' w_var ?hv ?_); (case hv => exact rfl))
    exact q
theorem ok_law_text (b_len : mg "len" = none) (b_range : mg "range" = none) (b_str : mg "str" = none) (c_law_ops : Cd P w K mg base 1 "_law_ops" spOps) (Z : St1 K mg "_law_text" s_law_text ["row"]) : Cd P w K mg base 2 "_law_text" (spShow K) := by
  refine Z.cd sc_law_text (fun vs H Q E h => by obtain ⟨t, n, op, fm, xs, rfl, _⟩ := h; rfl) (fun f cdv A outer s H vs Q E hr h => ?_)
  obtain ⟨t, n, op, fm, xs, rfl, ht, hi, q⟩ := h
  obtain ⟨fl, f3, fb⟩ := hi.fits.len
  have hn := hi.n38
  obtain ⟨at1, at2⟩ := first_at hi.at_
  refine ⟨_, (pss_cons (ps_set (i := 1) sc_law_text.nd rfl (.inl rfl) (pe_bm PySem.F.plainAttrs_list PySem.F.slot_list_index PySem.F.type_list_index mt_index (pe_cd0 c_law_ops hr (by first | decide | omega) (by rfl)) (pa_cons (pe_ix ix_tup (pv 0) pe_int (fun _ _ => rfl)) pa_nil)))
      (Evl.pss_cut (ps_set (i := 2) sc_law_text.nd rfl (.inl rfl) (pe_ifExp (pt_cmpR op_lt (pv 1) pe_int (nomark _)) pe_int pe_int))
      (Evl.pss_cut (ps_if (PW.pt (pw_or (pt_cmpR op_eq (pe_callB call_lenQ (by rfl) b_len PySem.boot_len (pa_cons (pv 0) pa_nil)) pe_int (nomark _)) (pw_or1 (pt_cmpR op_in_seq (pv 1) (pe_lst (pa_cons pe_int (pa_cons pe_int pa_nil))) rfl)))) (pss_one (ps_set (i := 2) sc_law_text.nd rfl (.inl rfl) pe_int)) pss_nil)
      (pss_cons (ps_set (i := 3) sc_law_text.nd rfl (.inl rfl) (pe_lst pa_nil))
      (pss_cons (ps_for PassesOwn.never rfl (pi_range2 (by rfl) b_range (pa_cons pe_int (pa_cons (pe_callB call_lenQ (by rfl) b_len PySem.boot_len (pa_cons (pv 0) pa_nil)) pa_nil))) (pg_name (i := 4) sc_law_text.nd rfl (.inl rfl))
      (pss_one (ps_expr (pe_bm PySem.F.plainAttrs_list PySem.F.slot_list_append PySem.F.type_list_append mt_append (pv 3) (pa_cons (pe_ifExp (pt_cmpR op_le (pv 4) (pv 2) (nomark _)) (pe_op op_addSQ pe_str (pe_callTy call_strQ (by rfl) b_str (by decide +kernel) (pa_cons (pe_ix ix_tup (pv 0) (pv 4) (fun _ _ => rfl)) pa_nil))) (pe_callTy call_strQ (by rfl) b_str (by decide +kernel) (pa_cons (pe_ix ix_tup (pv 0) (pv 4) (fun _ _ => rfl)) pa_nil))) pa_nil)))))
      (pss_one (ps_ret (pe_op op_addSQ (pe_op op_addSQ (pe_ix ix_tup (pv 0) pe_int (fun _ _ => rfl)) pe_str) (pe_m1 PySem.F.slot_str_join PySem.F.type_str_join mt_joinQ pe_str (pv 3)))))))))), ?_⟩
  (with_reducible refine w_seq ?_)
  (with_reducible refine w_asg ?_)
  (with_reducible refine w_bm ?_)
  (with_reducible refine w_call ?_)
  (with_reducible refine w_nil ?_)
  refine ⟨rfl, fun p H1 np sm hp => ?_⟩
  ((with_reducible refine' w_tyL ?hh ?_); (case hh => assumption))
  (with_reducible refine w_cons ?_)
  (with_reducible refine w_op ?_)
  ((with_reducible refine' w_var ?hv ?_); (case hv => exact rfl))
  (with_reducible refine w_c ?_)
  refine w_ixTs (sm.sqT ht) (atI_of (v := .str op) (by decide) rfl) ?_
  (with_reducible refine w_nil ?_)
  refine w_lix hp at1 at2 ?_
  (with_reducible refine w_name ?_)
  refine Evl.q_cut (M := fun σ' H' => H' = H1 ∧ σ' = [some (.ref t), some (.int n), some (.int (if n < 13 then 3 else 2)), none, none]) ?_ ?_
  · (with_reducible refine w_asg ?_)
    (with_reducible refine w_if ?_)
    (with_reducible refine w_test ?_)
    (with_reducible refine w_op ?_)
    ((with_reducible refine' w_var ?hv ?_); (case hv => exact rfl))
    (with_reducible refine w_c ?_)
    (with_reducible refine w_I0 ?_)
    (with_reducible refine w_bl ?_)
    refine w_dec (fun e => ?_) (fun e => ?_)
    · (with_reducible refine w_c ?_)
      (with_reducible refine w_name ?_)
      exact ⟨rfl, by rw [if_pos (by omega)]; rfl⟩
    · (with_reducible refine w_c ?_)
      (with_reducible refine w_name ?_)
      exact ⟨rfl, by rw [if_neg (by omega)]; rfl⟩
  rintro σ2 H2 ⟨rfl, rfl⟩
  skip
  refine Evl.q_cut (M := fun σ' H' => Same H2 H' ∧ σ' = [some (.ref t), some (.int n), some (.int (manyF n xs.length)), none, none]) ?_ ?_
  · (with_reducible refine w_ifS ?_)
    (with_reducible refine w_orT ?_)
    (with_reducible refine w_test ?_)
    (with_reducible refine w_op ?_)
    (with_reducible refine w_cb ?_)
    (with_reducible refine w_cons ?_)
    ((with_reducible refine' w_var ?hv ?_); (case hv => exact rfl))
    (with_reducible refine w_nil ?_)
    have el : (insV op xs).length = xs.length + 1 := by unfold insV; simp
    refine w_lenTn (xs.length + 1) (sm.sqT ht) el ?_
    (with_reducible refine w_c ?_)
    (with_reducible refine w_eqI ?_)
    (with_reducible refine w_bl ?_)
    refine w_dec (fun e => ?_) (fun e => ?_)
    · (with_reducible refine w_itT ?_)
      (with_reducible refine w_asg ?_)
      (with_reducible refine w_c ?_)
      (with_reducible refine w_name ?_)
      have em : manyF n xs.length = 1 := if_pos (.inl (by omega))
      rw [em]
      exact ⟨Same.refl _, rfl⟩
    · (with_reducible refine w_test ?_)
      (with_reducible refine w_op ?_)
      ((with_reducible refine' w_var ?hv ?_); (case hv => exact rfl))
      (with_reducible refine w_lst ?_)
      (with_reducible refine w_cons ?_)
      (with_reducible refine w_c ?_)
      (with_reducible refine w_cons ?_)
      (with_reducible refine w_c ?_)
      (with_reducible refine w_nil ?_)
      refine w_kLst (by show 2 ≤ sizeLine; decide) fun l H4 nl s4 hl => ?_
      refine w_inL (b := decide (n = 21 ∨ n = 33)) hl rfl (by rfl) ?_ ?_
      · unfold inV
        simp only [List.any_cons, List.any_nil, eqV, Bool.or_false]
        apply Bool.eq_iff_iff.mpr
        simp
        omega
      · refine ⟨_, rfl, ?_⟩
        by_cases e2 : n = 21 ∨ n = 33
        · have em : manyF n xs.length = 1 := if_pos (.inr e2)
          rw [decide_eq_true e2]
          (with_reducible refine w_itT ?_)
          (with_reducible refine w_asg ?_)
          (with_reducible refine w_c ?_)
          (with_reducible refine w_name ?_)
          rw [em]
          exact ⟨s4, rfl⟩
        · have em : manyF n xs.length = if n < 13 then 3 else 2 := if_neg (fun z => z.elim (fun z => by omega) e2)
          rw [decide_eq_false e2]
          (with_reducible refine w_itF ?_)
          (with_reducible refine w_next ?_)
          rw [em]
          exact ⟨s4, rfl⟩
  rintro σ3 H3 ⟨s3, rfl⟩
  have ht3 := (sm.trans s3).sqT ht
  (with_reducible refine w_seq ?_)
  (with_reducible refine w_asg ?_)
  (with_reducible refine w_lst ?_)
  (with_reducible refine w_nil ?_)
  refine w_kLst (Nat.zero_le _) fun D H4 nD s4 hD => ?_
  have ht4 := s4.sqT ht3
  (with_reducible refine w_name ?_)
  (with_reducible refine w_seq ?_)
  (with_reducible refine w_for ?_)
  (with_reducible refine w_rng2 ?_)
  (with_reducible refine w_cons ?_)
  (with_reducible refine w_c ?_)
  (with_reducible refine w_cons ?_)
  (with_reducible refine w_cb ?_)
  (with_reducible refine w_cons ?_)
  ((with_reducible refine' w_var ?hv ?_); (case hv => exact rfl))
  (with_reducible refine w_nil ?_)
  have el : (insV op xs).length = xs.length + 1 := by unfold insV; simp
  refine w_lenTn (xs.length + 1) ht4 el ?_
  (with_reducible refine w_nil ?_)
  have zl : (opsTx fm xs).length = xs.length := by unfold opsTx; rw [List.length_map, List.length_zip]; simp only [Array.length_toList, fl, Nat.min_self]
  refine w_forR2 xs.length (fun i σ' H' => Same H3 H' ∧ H' D = some (.lst (((opsTx fm xs).take i).map V.str)) ∧ ∃ u : Option V, σ' = [some (.ref t), some (.int n), some (.int (manyF n xs.length)), some (.ref D), u]) (by omega) (by omega) ⟨s4, hD, none, rfl⟩ (fun i σ' H5 hi5 h => ?_) (fun σ' H5 h => ?_)
  · obtain ⟨s5, hD5, u, rfl⟩ := h
    have ht5 := s5.sqT ht3
    obtain ⟨x, hx⟩ : ∃ x, xs[i]? = some x := ⟨_, List.getElem?_eq_getElem hi5⟩
    obtain ⟨c, hc⟩ : ∃ c, fm.cps[i]? = some c := ⟨_, Array.getElem?_eq_getElem (by omega)⟩
    have hz : (fm.cps.toList.zip xs)[i]? = some (c, x) := by
      rw [List.getElem?_zip_eq_some]
      exact ⟨by simpa using hc, hx⟩
    have hy : (opsTx fm xs)[i]? = some (opT c x) := by unfold opsTx; rw [List.getElem?_map, hz]; rfl
    have tk := take_more hy
    have hb := fb x (List.mem_of_getElem? hx)
    have xa : atI (insV op xs) (1 + (i : Int)) = some (.int x) := atI_of (by omega) (by
      rw [show (1 + (i : Int)).toNat = i + 1 by omega]
      unfold insV
      rw [List.getElem?_cons_succ, List.getElem?_map, hx]
      rfl)
    have mo := many_ok hi hc
    have l1 : ("r" : Str).length = 1 := by decide +kernel
    have ld := dcT_len (i := x) (by omega)
    have ll : (((opsTx fm xs).take i).map V.str).length < sizeLine := by
      rw [List.length_map, List.length_take]
      exact small1000 (by omega)
    (with_reducible refine w_name ?_)
    (with_reducible refine w_drop ?_)
    (with_reducible refine w_bm ?_)
    ((with_reducible refine' w_var ?hv ?_); (case hv => exact rfl))
    ((with_reducible refine' w_tyL ?hh ?_); (case hh => assumption))
    (with_reducible refine w_cons ?_)
    (with_reducible refine w_if ?_)
    (with_reducible refine w_test ?_)
    (with_reducible refine w_op ?_)
    ((with_reducible refine' w_var ?hv ?_); (case hv => exact rfl))
    ((with_reducible refine' w_var ?hv ?_); (case hv => exact rfl))
    (with_reducible refine w_I0 ?_)
    (with_reducible refine w_bl ?_)
    refine w_dec (fun e => ?_) (fun e => ?_)
    · have eo : opT c x = ("r" : Str) ++ dcT x := if_pos (mo.mpr e)
      (with_reducible refine w_op ?_)
      (with_reducible refine w_c ?_)
      (with_reducible refine w_cb ?_)
      (with_reducible refine w_cons ?_)
      (with_reducible refine w_op ?_)
      ((with_reducible refine' w_var ?hv ?_); (case hv => exact rfl))
      ((with_reducible refine' w_var ?hv ?_); (case hv => exact rfl))
      refine w_ixTs ht5 xa ?_
      (with_reducible refine w_nil ?_)
      refine w_strI (by omega) ?_
      refine w_addS (by rw [l1]; exact Nat.le_trans (Nat.add_le_add_left ld 1) (by decide)) ?_
      (with_reducible refine w_nil ?_)
      refine w_append hD5 ll fun H6 hD6 b6 => ?_
      skip
      exact ⟨fun b o h => b6 b o (ne_of_none h nD) (s5 b o h), by rw [hD6, tk, List.map_append, eo]; rfl, _, rfl⟩
    · have eo : opT c x = dcT x := if_neg (fun z => e (mo.mp z))
      (with_reducible refine w_cb ?_)
      (with_reducible refine w_cons ?_)
      (with_reducible refine w_op ?_)
      ((with_reducible refine' w_var ?hv ?_); (case hv => exact rfl))
      ((with_reducible refine' w_var ?hv ?_); (case hv => exact rfl))
      refine w_ixTs ht5 xa ?_
      (with_reducible refine w_nil ?_)
      refine w_strI (by omega) ?_
      (with_reducible refine w_nil ?_)
      refine w_append hD5 ll fun H6 hD6 b6 => ?_
      skip
      exact ⟨fun b o h => b6 b o (ne_of_none h nD) (s5 b o h), by rw [hD6, tk, List.map_append, eo]; rfl, _, rfl⟩
  · obtain ⟨s5, hD5, u, rfl⟩ := h
    rw [← zl, List.take_length] at hD5
    have o4 := op_len _ (List.mem_of_getElem? hi.at_)
    simp only at o4
    have ht5 := s5.sqT ht3
    have l1 : (" " : Str).length = 1 := by decide +kernel
    have l2 : (", " : Str).length = 2 := by decide +kernel
    have hb3 : ∀ x ∈ xs, x.natAbs < 4294967296 := fun x hx => by have := fb x hx; omega
    obtain ⟨js, jl⟩ := opsTx_len (fm := fm) hb3 f3
    (with_reducible refine w_ret ?_)
    (with_reducible refine w_op ?_)
    (with_reducible refine w_op ?_)
    (with_reducible refine w_op ?_)
    ((with_reducible refine' w_var ?hv ?_); (case hv => exact rfl))
    (with_reducible refine w_c ?_)
    refine w_ixTs ht5 (atI_of (v := .str op) (by decide) rfl) ?_
    (with_reducible refine w_c ?_)
    refine w_addS (by rw [l1]; exact Nat.le_trans (Nat.add_le_add_right o4 1) (by decide)) ?_
    (with_reducible refine w_m1 ?_)
    (with_reducible refine w_c ?_)
    (with_reducible refine w_isS ?_)
    ((with_reducible refine' w_var ?hv ?_); (case hv => exact rfl))
    refine w_joinL (opsTx fm xs) (.of hD5) (by rw [l2]; omega) ?_
    refine w_addS (by rw [cat_len, l1]; exact Nat.le_trans (show _ ≤ 100 by omega) (by decide)) ?_
    exact q _ (sm.trans (s3.trans s5))
theorem wordT_some {n : Nat} {op fm : Str} {xs : List Int} {x : Int} (h : Ins n op fm xs) (e : encW n fm xs = x) : wordT x = insT op fm xs := by
  unfold wordT
  rw [decF_some h e]
  show insT op (fmOf op) xs = _
  rw [← h.fm]
theorem wordT_none {x : Int} (h : ∀ n op fm xs, Ins n op fm xs → encW n fm xs ≠ x) : wordT x = ("word " : Str) ++ hexT x.toNat := by
  unfold wordT
  rw [decF_none h]
theorem insT_len {n : Nat} {op fm : Str} {xs : List Int} (h : Ins n op fm xs) : (insT op fm xs).length ≤ 80 := by
  obtain ⟨fl, f3, fb⟩ := h.fits.len
  have o4 := op_len _ (List.mem_of_getElem? h.at_)
  simp only at o4
  have l1 : (" " : Str).length = 1 := by decide +kernel
  obtain ⟨js, jl⟩ := opsTx_len (fm := fm) (xs := xs) (fun x hx => by have := fb x hx; omega) f3
  unfold insT
  rw [cat_len, cat_len, l1]
  omega
def spWordP (K : PySem.W.Frag) : Sp := fun vs H Q _ => ∃ (im sg : Addr) (gs : List Sg) (ds : List Int) (ad : Int), vs = [.ref im, .int ad] ∧ ImAt H im sg gs ∧ GOk gs ds ∧ W32 ad ∧ ∀ H', Same H H' → (placeT gs ad).length ≤ 80 → Q (.str (placeT gs ad)) H'
def spLineP (K : PySem.W.Frag) : Sp := fun vs H Q _ => ∃ (im sg : Addr) (gs : List Sg) (ds : List Int) (ad : Int), vs = [.ref im, .int ad] ∧ ImAt H im sg gs ∧ GOk gs ds ∧ W32 ad ∧ ∀ H', Same H H' → Q (.str (lineT gs ad)) H'
theorem ok_show_word (c_can_fetch : Cd P w K mg base 3 "can_fetch" (spRight4 Sg.ex)) (c_word_at : Cd P w K mg base 3 "word_at" spWordAt) (c_decode : Cd P w K mg base 3 "decode" spDec) (c_show_instruction : Cd P w K mg base 2 "show_instruction" (spShow K)) (Z : St1 K mg "_show_word" s_show_word ["image", "address"]) : Cd P w K mg base 4 "_show_word" (spWordP K) := by
  refine Z.cd sc_show_word (fun vs H Q E h => by obtain ⟨im, sg, gs, ds, ad, rfl, _⟩ := h; rfl) (fun f cdv A outer s H vs Q E hr h => ?_)
  obtain ⟨im, sg, gs, ds, ad, rfl, hI, G, had, q⟩ := h
  refine ⟨_, (pss_cons (ps_if (pt_not (pt_val (pe_cd c_can_fetch hr (by first | decide | omega) (by rfl) (pa_cons (pv 0) (pa_cons (pv 1) pa_nil))))) (pss_one (ps_ret pe_str)) pss_nil)
      (pss_cons (ps_set (i := 2) sc_show_word.nd rfl (.inl rfl) (pe_cd c_word_at hr (by first | decide | omega) (by rfl) (pa_cons (pv 0) (pa_cons (pv 1) pa_nil))))
      (pss_cons (ps_set (i := 3) sc_show_word.nd rfl (.inl rfl) (pe_cd c_decode hr (by first | decide | omega) (by rfl) (pa_cons (pv 2) pa_nil)))
      (pss_one (ps_ret (pe_ifExp (pt_cmpR op_isNQ (pv 3) pe_non (nomark _)) (pe_J (.cons pe_str (.cons (pe_hex (pv 2)) .nil))) (pe_cd c_show_instruction hr (by first | decide | omega) (by rfl) (pa_cons (pv 3) pa_nil)))))))), ?_⟩
  (with_reducible refine w_seq ?_)
  (with_reducible refine w_ifS ?_)
  (with_reducible refine w_notT ?_)
  (with_reducible refine w_B ?_)
  (with_reducible refine w_call ?_)
  (with_reducible refine w_cons ?_)
  ((with_reducible refine' w_var ?hv ?_); (case hv => exact rfl))
  (with_reducible refine w_cons ?_)
  ((with_reducible refine' w_var ?hv ?_); (case hv => exact rfl))
  (with_reducible refine w_nil ?_)
  refine ⟨im, sg, gs, ad, rfl, hI, had.1, fun b H1 hb s1 => ?_⟩
  have eb := hb.eq
  have hI1 := hI.same s1
  cases b with
  | false =>
    have ep : placeT gs ad = "none" := by unfold placeT; rw [← eb, if_neg (by decide)]
    (with_reducible refine w_bl ?_)
    (with_reducible refine w_nF ?_)
    (with_reducible refine w_ret ?_)
    (with_reducible refine w_c ?_)
    have := q H1 s1 (by rw [ep]; decide +kernel)
    rw [ep] at this
    exact this
  | true =>
    have ep : placeT gs ad = wordT (wdF gs ad) := by unfold placeT; rw [← eb, if_pos rfl]
    rw [ep] at q
    have hb' : canL gs ad 4 = true := by
      have := eb.symm
      unfold rightB at this
      simp only [Bool.and_eq_true] at this
      exact this.1
    obtain ⟨n, g, hF, hg, hfit, en⟩ := canL_found hb'
    have ew : leS g.bs (ad - g.lo).toNat 4 = wdF gs ad := by
      unfold wdF
      rw [en, Int.toNat_natCast, hg]
    have wb := wdF_bnd G ad
    (with_reducible refine w_bl ?_)
    (with_reducible refine w_nT ?_)
    (with_reducible refine w_next ?_)
    (with_reducible refine w_seq ?_)
    (with_reducible refine w_asg ?_)
    (with_reducible refine w_call ?_)
    (with_reducible refine w_cons ?_)
    ((with_reducible refine' w_var ?hv ?_); (case hv => exact rfl))
    (with_reducible refine w_cons ?_)
    ((with_reducible refine' w_var ?hv ?_); (case hv => exact rfl))
    (with_reducible refine w_nil ?_)
    refine ⟨im, sg, gs, ad, n, g, rfl, hI1, G.gl, hF, hg, G.gb g (List.mem_of_getElem? hg), fun H2 s2 => ?_⟩
    rw [ew]
    (with_reducible refine w_name ?_)
    (with_reducible refine w_seq ?_)
    (with_reducible refine w_asg ?_)
    (with_reducible refine w_call ?_)
    (with_reducible refine w_cons ?_)
    ((with_reducible refine' w_var ?hv ?_); (case hv => exact rfl))
    (with_reducible refine w_nil ?_)
    refine ⟨_, rfl, wb.1, wb.2, fun v H3 s3 hv => ?_⟩
    have s13 := s1.trans (s2.trans s3)
    rcases hv with ⟨k, op, fm, xs, t, h1, h2, rfl, h4⟩ | ⟨h1, rfl⟩
    · have et := wordT_some h1 h2
      have il := insT_len h1
      (with_reducible refine w_name ?_)
      (with_reducible refine w_ret ?_)
      (with_reducible refine w_if ?_)
      (with_reducible refine w_test ?_)
      (with_reducible refine w_op ?_)
      ((with_reducible refine' w_var ?hv ?_); (case hv => exact rfl))
      (with_reducible refine w_c ?_)
      (with_reducible refine w_isNR ?_)
      (with_reducible refine w_bl ?_)
      (with_reducible refine w_itF ?_)
      (with_reducible refine w_call ?_)
      (with_reducible refine w_cons ?_)
      ((with_reducible refine' w_var ?hv ?_); (case hv => exact rfl))
      (with_reducible refine w_nil ?_)
      refine ⟨t, k, op, fm, xs, rfl, .of h4, h1, fun H4 s4 => ?_⟩
      rw [et] at q
      exact q H4 (s13.trans s4) il
    · have et := wordT_none h1
      have l5 : ("word " : Str).length = 5 := by decide +kernel
      (with_reducible refine w_name ?_)
      (with_reducible refine w_ret ?_)
      (with_reducible refine w_if ?_)
      (with_reducible refine w_test ?_)
      (with_reducible refine w_op ?_)
      ((with_reducible refine' w_var ?hv ?_); (case hv => exact rfl))
      (with_reducible refine w_c ?_)
      (with_reducible refine w_isNN ?_)
      (with_reducible refine w_bl ?_)
      (with_reducible refine w_itT ?_)
      (with_reducible refine w_J ?_)
      (with_reducible refine w_Js ?_)
      (with_reducible refine w_c ?_)
      refine w_kJs (by rw [Str.empty_append, l5]; decide) ?_
      (with_reducible refine w_Js ?_)
      (with_reducible refine w_hex ?_)
      ((with_reducible refine' w_var ?hv ?_); (case hv => exact rfl))
      (with_reducible refine w_exI ?_)
      refine ⟨wb.1, wb.2, ?_⟩
      refine w_kJs (by rw [Str.empty_append, cat_len, l5, hexT_len]; decide) ?_
      (with_reducible refine w_Js0 ?_)
      rw [Str.empty_append]
      rw [et] at q
      exact q H3 s13 (by rw [cat_len, l5, hexT_len]; decide)
theorem ok_show_place (c_show_word : Cd P w K mg base 4 "_show_word" (spWordP K)) (Z : St1 K mg "_show_place" s_show_place ["image", "address"]) : Cd P w K mg base 5 "_show_place" (spLineP K) := by
  refine Z.cd sc_show_place (fun vs H Q E h => by obtain ⟨im, sg, gs, ds, ad, rfl, _⟩ := h; rfl) (fun f cdv A outer s H vs Q E hr h => ?_)
  obtain ⟨im, sg, gs, ds, ad, rfl, hI, G, had, q⟩ := h
  have l2 : (": " : Str).length = 2 := by decide +kernel
  refine ⟨_, (pss_one (ps_ret (pe_J (.cons (pe_hex (pv 1)) (.cons pe_str (.cons (pe_fmt (pe_cd c_show_word hr (by first | decide | omega) (by rfl) (pa_cons (pv 0) (pa_cons (pv 1) pa_nil)))) .nil)))))), ?_⟩
  (with_reducible refine w_ret ?_)
  (with_reducible refine w_J ?_)
  (with_reducible refine w_Js ?_)
  (with_reducible refine w_hex ?_)
  ((with_reducible refine' w_var ?hv ?_); (case hv => exact rfl))
  (with_reducible refine w_exI ?_)
  refine ⟨had.1, had.2, ?_⟩
  refine w_kJs (by rw [Str.empty_append, hexT_len]; decide) ?_
  (with_reducible refine w_Js ?_)
  (with_reducible refine w_c ?_)
  refine w_kJs (by rw [Str.empty_append, cat_len, l2, hexT_len]; decide) ?_
  (with_reducible refine w_Js ?_)
  (with_reducible refine w_fmt ?_)
  (with_reducible refine w_call ?_)
  (with_reducible refine w_cons ?_)
  ((with_reducible refine' w_var ?hv ?_); (case hv => exact rfl))
  (with_reducible refine w_cons ?_)
  ((with_reducible refine' w_var ?hv ?_); (case hv => exact rfl))
  (with_reducible refine w_nil ?_)
  refine ⟨im, sg, gs, ds, ad, rfl, hI, G, had, fun H1 s1 pl => ?_⟩
  refine w_kFmtS (Nat.le_trans pl (by decide)) ?_
  refine w_kJs (by rw [Str.empty_append, cat_len, cat_len, l2, hexT_len]; exact Nat.le_trans (Nat.add_le_add_left pl 10) (by decide)) ?_
  (with_reducible refine w_Js0 ?_)
  rw [Str.empty_append]
  exact q H1 s1
theorem ok_law_line (c_law_fetch : Cd P w K mg base 2 "_law_fetch" spFetch) (c_law_read : Cd P w K mg base 3 "_law_read" spDec) (c_law_hexadecimal : Cd P w K mg base 1 "_law_hexadecimal" spHexL) (c_law_text : Cd P w K mg base 2 "_law_text" (spShow K)) (Z : St1 K mg "_law_line" s_law_line ["image", "at"]) : Cd P w K mg base 4 "_law_line" (spLineP K) := by
  refine Z.cd sc_law_line (fun vs H Q E h => by obtain ⟨im, sg, gs, ds, ad, rfl, _⟩ := h; rfl) (fun f cdv A outer s H vs Q E hr h => ?_)
  obtain ⟨im, sg, gs, ds, ad, rfl, hI, G, had, q⟩ := h
  have wb := wdF_bnd G ad
  refine ⟨_, (pss_cons (ps_set (i := 2) sc_law_line.nd rfl (.inl rfl) (pe_cd c_law_fetch hr (by first | decide | omega) (by rfl) (pa_cons (pv 0) (pa_cons (pv 1) pa_nil))))
      (pss_cons (ps_if (pt_cmpR op_lt (pv 2) pe_int (nomark _)) (pss_one (ps_ret (pe_op op_addSQ (pe_cd c_law_hexadecimal hr (by first | decide | omega) (by rfl) (pa_cons (pv 1) pa_nil)) pe_str))) pss_nil)
      (pss_cons (ps_set (i := 3) sc_law_line.nd rfl (.inl rfl) (pe_cd c_law_read hr (by first | decide | omega) (by rfl) (pa_cons (pv 2) pa_nil)))
      (pss_cons (ps_if (pt_cmpR op_isNQ (pv 3) pe_non (nomark _)) (pss_one (ps_ret (pe_op op_addSQ (pe_op op_addSQ (pe_cd c_law_hexadecimal hr (by first | decide | omega) (by rfl) (pa_cons (pv 1) pa_nil)) pe_str) (pe_cd c_law_hexadecimal hr (by first | decide | omega) (by rfl) (pa_cons (pv 2) pa_nil))))) pss_nil)
      (pss_one (ps_ret (pe_op op_addSQ (pe_op op_addSQ (pe_cd c_law_hexadecimal hr (by first | decide | omega) (by rfl) (pa_cons (pv 1) pa_nil)) pe_str) (pe_cd c_law_text hr (by first | decide | omega) (by rfl) (pa_cons (pv 3) pa_nil))))))))), ?_⟩
  (with_reducible refine w_seq ?_)
  (with_reducible refine w_asg ?_)
  (with_reducible refine w_call ?_)
  (with_reducible refine w_cons ?_)
  ((with_reducible refine' w_var ?hv ?_); (case hv => exact rfl))
  (with_reducible refine w_cons ?_)
  ((with_reducible refine' w_var ?hv ?_); (case hv => exact rfl))
  (with_reducible refine w_nil ?_)
  refine ⟨im, sg, gs, ds, ad, rfl, hI, G, had, fun H1 s1 => ?_⟩
  have l2 : (": " : Str).length = 2 := by decide +kernel
  have l6 : (": none" : Str).length = 6 := by decide +kernel
  have l8 : (": word " : Str).length = 7 := by decide +kernel
  have e6 : (": none" : Str) = (": " : Str) ++ ("none" : Str) := by decide +kernel
  have e8 : (": word " : Str) = (": " : Str) ++ ("word " : Str) := by decide +kernel
  by_cases eb : rightB Sg.ex gs ad 4 = true
  · have ep : placeT gs ad = wordT (wdF gs ad) := if_pos eb
    rw [if_pos eb]
    (with_reducible refine w_name ?_)
    (with_reducible refine w_seq ?_)
    (with_reducible refine w_ifS ?_)
    (with_reducible refine w_test ?_)
    (with_reducible refine w_op ?_)
    ((with_reducible refine' w_var ?hv ?_); (case hv => exact rfl))
    (with_reducible refine w_c ?_)
    (with_reducible refine w_I0 ?_)
    (with_reducible refine w_bl ?_)
    refine w_decF (by have := wb.1; omega) ?_
    (with_reducible refine w_next ?_)
    (with_reducible refine w_seq ?_)
    (with_reducible refine w_asg ?_)
    (with_reducible refine w_call ?_)
    (with_reducible refine w_cons ?_)
    ((with_reducible refine' w_var ?hv ?_); (case hv => exact rfl))
    (with_reducible refine w_nil ?_)
    refine ⟨_, rfl, wb.1, wb.2, fun v H2 s2 hv => ?_⟩
    rcases hv with ⟨k, op, fm, xs, t, h1, h2, rfl, h4⟩ | ⟨h1, rfl⟩
    · have et := wordT_some h1 h2
      have il := insT_len h1
      (with_reducible refine w_name ?_)
      (with_reducible refine w_seq ?_)
      (with_reducible refine w_ifS ?_)
      (with_reducible refine w_test ?_)
      (with_reducible refine w_op ?_)
      ((with_reducible refine' w_var ?hv ?_); (case hv => exact rfl))
      (with_reducible refine w_c ?_)
      (with_reducible refine w_isNR ?_)
      (with_reducible refine w_bl ?_)
      (with_reducible refine w_itF ?_)
      (with_reducible refine w_next ?_)
      (with_reducible refine w_ret ?_)
      (with_reducible refine w_op ?_)
      (with_reducible refine w_op ?_)
      (with_reducible refine w_call ?_)
      (with_reducible refine w_cons ?_)
      ((with_reducible refine' w_var ?hv ?_); (case hv => exact rfl))
      (with_reducible refine w_nil ?_)
      refine ⟨_, rfl, had.1, ?_⟩
      (with_reducible refine w_c ?_)
      refine w_addS (by rw [hexT_len, l2]; decide) ?_
      (with_reducible refine w_call ?_)
      (with_reducible refine w_cons ?_)
      ((with_reducible refine' w_var ?hv ?_); (case hv => exact rfl))
      (with_reducible refine w_nil ?_)
      refine ⟨t, k, op, fm, xs, rfl, .of h4, h1, fun H3 s3 => ?_⟩
      refine w_addS (by rw [cat_len, hexT_len, l2]; exact Nat.le_trans (Nat.add_le_add_left il 10) (by decide)) ?_
      have := q H3 (s1.trans (s2.trans s3))
      unfold lineT at this
      rw [ep, et] at this
      exact this
    · have et := wordT_none h1
      (with_reducible refine w_name ?_)
      (with_reducible refine w_seq ?_)
      (with_reducible refine w_ifS ?_)
      (with_reducible refine w_test ?_)
      (with_reducible refine w_op ?_)
      ((with_reducible refine' w_var ?hv ?_); (case hv => exact rfl))
      (with_reducible refine w_c ?_)
      (with_reducible refine w_isNN ?_)
      (with_reducible refine w_bl ?_)
      (with_reducible refine w_itT ?_)
      (with_reducible refine w_ret ?_)
      (with_reducible refine w_op ?_)
      (with_reducible refine w_op ?_)
      (with_reducible refine w_call ?_)
      (with_reducible refine w_cons ?_)
      ((with_reducible refine' w_var ?hv ?_); (case hv => exact rfl))
      (with_reducible refine w_nil ?_)
      refine ⟨_, rfl, had.1, ?_⟩
      (with_reducible refine w_c ?_)
      refine w_addS (by rw [hexT_len, l8]; decide) ?_
      (with_reducible refine w_call ?_)
      (with_reducible refine w_cons ?_)
      ((with_reducible refine' w_var ?hv ?_); (case hv => exact rfl))
      (with_reducible refine w_nil ?_)
      refine ⟨_, rfl, wb.1, ?_⟩
      refine w_addS (by rw [cat_len, hexT_len, hexT_len, l8]; decide) ?_
      have := q H2 (s1.trans s2)
      unfold lineT at this
      rw [ep, et] at this
      rw [e8, ← Str.append_assoc, Str.append_assoc]
      exact this
  · have ep : placeT gs ad = "none" := if_neg eb
    rw [if_neg eb]
    (with_reducible refine w_name ?_)
    (with_reducible refine w_seq ?_)
    (with_reducible refine w_ifS ?_)
    (with_reducible refine w_test ?_)
    (with_reducible refine w_op ?_)
    ((with_reducible refine' w_var ?hv ?_); (case hv => exact rfl))
    (with_reducible refine w_c ?_)
    (with_reducible refine w_I0 ?_)
    (with_reducible refine w_bl ?_)
    refine w_decT (by omega) ?_
    (with_reducible refine w_ret ?_)
    (with_reducible refine w_op ?_)
    (with_reducible refine w_call ?_)
    (with_reducible refine w_cons ?_)
    ((with_reducible refine' w_var ?hv ?_); (case hv => exact rfl))
    (with_reducible refine w_nil ?_)
    refine ⟨_, rfl, had.1, ?_⟩
    (with_reducible refine w_c ?_)
    refine w_addS (by rw [hexT_len, l6]; decide) ?_
    have := q H1 s1
    unfold lineT at this
    rw [ep, Str.append_assoc, ← e6] at this
    exact this
end
end K06

open PySem.W
namespace K06
local macro_rules | `(tactic| walk_at "w1") => `(tactic| first
  | (with_reducible refine w_brk ?_)
  | (with_reducible refine w_fmt ?_)
  | (with_reducible refine w_J ?_)
  | (with_reducible refine w_Js ?_)
  | (with_reducible refine w_Js0 ?_))
theorem sc_show_code : FnScope ["image", "address", "count", "k"] ["image", "address", "count"] (defScope s_show_code) := ⟨rfl, rfl, rfl, by decide +kernel, rfl, by decide +kernel, by decide +kernel⟩
theorem sc_name_at : FnScope ["image", "address", "found", "place", "name"] ["image", "address"] (defScope s_name_at) := ⟨rfl, rfl, rfl, by decide +kernel, rfl, by decide +kernel, by decide +kernel⟩
theorem sc_address_of : FnScope ["image", "name", "address", "other"] ["image", "name"] (defScope s_address_of) := ⟨rfl, rfl, rfl, by decide +kernel, rfl, by decide +kernel, by decide +kernel⟩
def codeL (gs : List Sg) (ad : Int) (c : Nat) : List Str := (List.range c).map fun (k : Nat) => lineT gs ((ad + 4 * (k : Int)) % 4294967296)
def spCode (K : PySem.W.Frag) : Sp := fun vs H Q _ => ∃ (im sg : Addr) (gs : List Sg) (ds : List Int) (ad : Int) (c : Nat), vs = [.ref im, .int ad, .int (c : Nat)] ∧ ImAt H im sg gs ∧ GOk gs ds ∧ 0 ≤ ad ∧ ad < 4294967296 ∧ c ≤ 100 ∧ ∀ D H', H D = none → Same H H' → H' D = some (.lst ((codeL gs ad c).map V.str)) → Q (.ref D) H'
abbrev Ry := Addr × Int × Str
structure SyAt (H : Hp) (im sy : Addr) (rows : List Ry) : Prop where
  hi : ∃ (a : V) (b : V), H im = some (.tup [a, b, .ref sy])
  hs : H sy = some (.tup (rows.map fun r => V.ref r.1))
  hr : ∀ r ∈ rows, H r.1 = some (.tup [.int r.2.1, .str r.2.2])
structure RyOk (rows : List Ry) : Prop where
  n : rows.length ≤ 100
  asc : (rows.map (·.2.1)).Pairwise (· ≤ ·)
  w : ∀ r ∈ rows, W32 r.2.1
  s : ∀ r ∈ rows, r.2.2.length ≤ 10
theorem SyAt.same {H H' : Hp} {im sy : Addr} {rows : List Ry} (h : SyAt H im sy rows) (s : Same H H') : SyAt H' im sy rows :=
  ⟨by obtain ⟨a, b, e⟩ := h.hi; exact ⟨a, b, s _ _ e⟩, s _ _ h.hs, fun r hr => s _ _ (h.hr r hr)⟩
def nmT (ad : Int) (r : Ry) : Str := if r.2.1 = ad then r.2.2 else r.2.2 ++ ("+" : Str) ++ dcT (ad - r.2.1)
def nameT (rows : List Ry) (ad : Int) : Str := match (rows.filter fun r => decide (r.2.1 ≤ ad)).getLast? with
  | none => ""
  | some r => nmT ad r
def adT (rows : List Ry) (x : Str) : Int := match rows.find? fun r => decide (r.2.2 = x) with
  | none => -1
  | some r => r.2.1
def spName : Sp := fun vs H Q _ => ∃ (im sy : Addr) (rows : List Ry) (ad : Int), vs = [.ref im, .int ad] ∧ SyAt H im sy rows ∧ RyOk rows ∧ W32 ad ∧ ∀ H', Same H H' → Q (.str (nameT rows ad)) H'
def spAdOf : Sp := fun vs H Q _ => ∃ (im sy : Addr) (rows : List Ry) (x : Str), vs = [.ref im, .str x] ∧ SyAt H im sy rows ∧ RyOk rows ∧ ∀ H', Same H H' → Q (.int (adT rows x)) H'
theorem asc_head {rows : List Ry} (asc : (rows.map (·.2.1)).Pairwise (· ≤ ·)) {i : Nat} {r : Ry} (h : rows[i]? = some r) : ∀ x ∈ rows.drop i, r.2.1 ≤ x.2.1 := by
  obtain ⟨hi, e⟩ := List.getElem?_eq_some_iff.mp h
  have a := (List.pairwise_map.mp asc).sublist (List.drop_sublist i rows)
  rw [List.drop_eq_getElem_cons hi, e] at a ⊢
  intro x hx
  rcases List.mem_cons.mp hx with rfl | hx
  · exact Int.le_refl _
  · exact (List.pairwise_cons.mp a).1 x hx
theorem filt_take {rows : List Ry} {ad : Int} {i : Nat} (h1 : ∀ r ∈ rows.take i, r.2.1 ≤ ad) (h2 : ∀ r ∈ rows.drop i, ¬ r.2.1 ≤ ad) : (rows.filter fun r => decide (r.2.1 ≤ ad)) = rows.take i := by
  have e : (rows.filter fun r => decide (r.2.1 ≤ ad)) = ((rows.take i ++ rows.drop i).filter fun r => decide (r.2.1 ≤ ad)) := by rw [List.take_append_drop]
  rw [e, List.filter_append, List.filter_eq_self.mpr fun r hr => decide_eq_true (h1 r hr), List.filter_eq_nil_iff.mpr fun r hr => by simpa using h2 r hr, List.append_nil]
def preT (rows : List Ry) (ad : Int) (i : Nat) : Str := match (rows.take i).getLast? with
  | none => ""
  | some r => nmT ad r
theorem preT_succ {rows : List Ry} {ad : Int} {i : Nat} {r : Ry} (h : rows[i]? = some r) : preT rows ad (i + 1) = nmT ad r := by
  unfold preT
  rw [take_more h, List.getLast?_concat]
theorem preT_name {rows : List Ry} {ad : Int} {i : Nat} (h1 : ∀ r ∈ rows.take i, r.2.1 ≤ ad) (h2 : ∀ r ∈ rows.drop i, ¬ r.2.1 ≤ ad) : nameT rows ad = preT rows ad i := by
  unfold nameT preT
  rw [filt_take h1 h2]
section
variable {P : Program} {w : World} {K : PySem.W.Frag} {mg : Str → Option Value} {base : Heap}
theorem ok_show_code (g_MASK : GV mg "MASK" (.int 4294967295)) (b_range : mg "range" = none) (c_show_place : Cd P w K mg base 5 "_show_place" (spLineP K)) (Z : St1 K mg "show_code" s_show_code ["image", "address", "count"]) : Cd P w K mg base 6 "show_code" (spCode K) := by
  refine Z.cd sc_show_code (fun vs H Q E h => by obtain ⟨im, sg, gs, ds, ad, c, rfl, _⟩ := h; rfl) (fun f cdv A outer s H vs Q E hr h => ?_)
  obtain ⟨im, sg, gs, ds, ad, c, rfl, hI, G, a0, a1, hc, q⟩ := h
  have e32 : ∀ x : Int, Builtin.bitAnd x 4294967295 = x % 4294967296 := fun x => PySem.W.kbt_mask x 32
  refine ⟨_, (pss_one (ps_ret (pe_lc (own := [("k", 3)]) rfl sc_show_code.nd (pi_range1 (by rfl) b_range (pa_cons (pv 2) pa_nil)) (blkOk_by (own := [("k", 3)]) (N := ["image", "address", "count", "k"]) (sc := (defScope s_show_code)) (by decide +kernel)) (fun _ _ _ _ _ => (pg_name (i := 3) sc_show_code.nd rfl (.inl rfl))) (fun _ _ _ _ _ => pts_nil) (fun _ _ _ _ _ => (pe_cd c_show_place hr (by first | decide | omega) (by rfl) (pa_cons (pv 0) (pa_cons (pe_op op_and (pe_op op_add (pv 1) (pe_op op_mul pe_int (pv 3))) (pe_gv (by rfl) g_MASK)) pa_nil))))))), ?_⟩
  (with_reducible refine w_ret ?_)
  (with_reducible refine w_lc ?_)
  (with_reducible refine w_rng1 ?_)
  (with_reducible refine w_cons ?_)
  ((with_reducible refine' w_var ?hv ?_); (case hv => exact rfl))
  (with_reducible refine w_nil ?_)
  refine w_lcR c (fun D i H' => H D = none ∧ Same H H' ∧ H' D = some (.lst ((codeL gs ad i).map V.str))) (by omega) (by omega) (fun D nD => ⟨nD, Same.new nD, upd_same⟩) (fun D i H1 hi h => ?_) (fun D H1 nD h => ?_)
  · obtain ⟨nD, s1, hD⟩ := h
    (with_reducible refine w_name ?_)
    refine ⟨rfl, ?_⟩
    (with_reducible refine w_yes ?_)
    (with_reducible refine w_itT ?_)
    (with_reducible refine w_call ?_)
    (with_reducible refine w_cons ?_)
    ((with_reducible refine' w_var ?hv ?_); (case hv => exact rfl))
    (with_reducible refine w_cons ?_)
    (with_reducible refine w_op ?_)
    (with_reducible refine w_op ?_)
    ((with_reducible refine' w_var ?hv ?_); (case hv => exact rfl))
    (with_reducible refine w_op ?_)
    (with_reducible refine w_c ?_)
    ((with_reducible refine' w_var ?hv ?_); (case hv => exact rfl))
    ((with_reducible refine w_I ?hc ?_); (case hc => walk_at "side"))
    (with_reducible refine w_I0 ?_)
    (with_reducible refine w_c ?_)
    (with_reducible refine w_I0 ?_)
    (with_reducible refine w_nil ?_)
    rw [e32]
    refine ⟨im, sg, gs, ds, _, rfl, hI.same s1, G, ⟨Int.emod_nonneg _ (by decide), Int.emod_lt_of_pos _ (by decide)⟩, fun H2 s2 => ?_⟩
    refine ⟨_, s2 _ _ hD, by rw [List.length_map]; unfold codeL; rw [List.length_map, List.length_range]; exact small1000 (by omega), nD, fun b o h => ?_, ?_⟩
    · rw [upd_ne (ne_of_none h nD)]; exact s2 _ _ (s1 b o h)
    · rw [upd_same]; unfold codeL; rw [List.range_succ, List.map_append, List.map_append]; rfl
  · obtain ⟨_, s1, hD⟩ := h
    skip
    exact q D H1 nD s1 hD
theorem ok_name_at (Z : St1 K mg "name_at" s_name_at ["image", "address"]) : Cd P w K mg base 1 "name_at" spName := by
  refine Z.cd sc_name_at (fun vs H Q E h => by obtain ⟨im, sy, rows, ad, rfl, _⟩ := h; rfl) (fun f cdv A outer s H vs Q E hr h => ?_)
  obtain ⟨im, sy, rows, ad, rfl, hS, hR, had, q⟩ := h
  obtain ⟨x1, x2, hi⟩ := hS.hi
  have hs := hS.hs
  refine ⟨_, (pss_cons (ps_set (i := 2) sc_name_at.nd rfl (.inl rfl) pe_str)
      (pss_cons (ps_for PassesOwn.never rfl (pi_tup (pe_ix ix_tup (pv 0) pe_int (fun _ _ => rfl))) (pg_tup rfl (pgs_cons (pg_name (i := 3) sc_name_at.nd rfl (.inl rfl)) (pgs_cons (pg_name (i := 4) sc_name_at.nd rfl (.inl rfl)) pgs_nil)))
      (pss_cons (ps_if (pt_cmpR op_gt (pv 3) (pv 1) (nomark _)) (pss_one ps_break) pss_nil)
      (pss_one (ps_set (i := 2) sc_name_at.nd rfl (.inl rfl) (pe_ifExp (pt_cmpR op_eq (pv 3) (pv 1) (nomark _)) (pv 4) (pe_J (.cons (pe_fmt (pv 4)) (.cons pe_str (.cons (pe_fmt (pe_op op_sub (pv 1) (pv 3))) .nil)))))))))
      (pss_one (ps_ret (pv 2))))), ?_⟩
  (with_reducible refine w_seq ?_)
  (with_reducible refine w_asg ?_)
  (with_reducible refine w_c ?_)
  (with_reducible refine w_name ?_)
  (with_reducible refine w_seq ?_)
  (with_reducible refine w_for ?_)
  (with_reducible refine w_iT ?_)
  (with_reducible refine w_op ?_)
  ((with_reducible refine' w_var ?hv ?_); (case hv => exact rfl))
  (with_reducible refine w_c ?_)
  ((with_reducible refine' w_ixT ?hh ?ha ?_); (case hh => assumption); (case ha => exact rfl))
  refine w_forT (rows.map fun r => V.ref r.1) (fun i σ' H' => H' = H ∧ (∀ r ∈ rows.take i, r.2.1 ≤ ad) ∧ ∃ u v : Option V, σ' = [some (.ref im), some (.int ad), some (.str (preT rows ad i)), u, v]) (.of hs) ⟨rfl, fun r h => (by cases h), none, none, rfl⟩ (fun i σ' H' _ h => .of (h.1 ▸ hs)) (fun i x σ' H' hx h => ?_) (fun σ' H' h => ?_)
  · obtain ⟨rfl, hle, u, v, rfl⟩ := h
    obtain ⟨r, _, hr, rfl⟩ := map_get' hx
    have hrow := hS.hr r (List.mem_of_getElem? hr)
    have hw := hR.w r (List.mem_of_getElem? hr)
    have hl := hR.s r (List.mem_of_getElem? hr)
    have l1 : ("+" : Str).length = 1 := by decide +kernel
    have ld := dcT_len (i := ad - r.2.1) (by unfold W32 at *; omega)
    ((with_reducible refine' w_gTup ?hh ?hn ?_); (case hh => assumption); (case hn => exact rfl))
    (with_reducible refine w_gCons ?_)
    (with_reducible refine w_name ?_)
    (with_reducible refine w_gCons ?_)
    (with_reducible refine w_name ?_)
    (with_reducible refine w_gNil ?_)
    (with_reducible refine w_seq ?_)
    (with_reducible refine w_ifS ?_)
    (with_reducible refine w_test ?_)
    (with_reducible refine w_op ?_)
    ((with_reducible refine' w_var ?hv ?_); (case hv => exact rfl))
    ((with_reducible refine' w_var ?hv ?_); (case hv => exact rfl))
    (with_reducible refine w_I0 ?_)
    (with_reducible refine w_bl ?_)
    refine w_dec (fun e => ?_) (fun e => ?_)
    · (with_reducible refine w_brk ?_)
      (with_reducible refine w_ret ?_)
      ((with_reducible refine' w_var ?hv ?_); (case hv => exact rfl))
      have en : nameT rows ad = preT rows ad i := preT_name hle fun x hx => by
        have := asc_head hR.asc hr x hx
        omega
      rw [← en]
      exact q _ (Same.refl _)
    · have hle' : ∀ x ∈ rows.take (i + 1), x.2.1 ≤ ad := fun x hx => by
        rw [take_more hr] at hx
        rcases List.mem_append.mp hx with hx | hx
        · exact hle x hx
        · rw [List.mem_singleton.mp hx]; omega
      (with_reducible refine w_next ?_)
      (with_reducible refine w_asg ?_)
      (with_reducible refine w_if ?_)
      (with_reducible refine w_test ?_)
      (with_reducible refine w_op ?_)
      ((with_reducible refine' w_var ?hv ?_); (case hv => exact rfl))
      ((with_reducible refine' w_var ?hv ?_); (case hv => exact rfl))
      (with_reducible refine w_eqI ?_)
      (with_reducible refine w_bl ?_)
      refine w_dec (fun e2 => ?_) (fun e2 => ?_)
      · ((with_reducible refine' w_var ?hv ?_); (case hv => exact rfl))
        (with_reducible refine w_name ?_)
        refine ⟨rfl, hle', some (.int r.2.1), some (.str r.2.2), ?_⟩
        rw [preT_succ hr]
        unfold nmT
        rw [if_pos e2]
        rfl
      · (with_reducible refine w_J ?_)
        (with_reducible refine w_Js ?_)
        (with_reducible refine w_fmt ?_)
        ((with_reducible refine' w_var ?hv ?_); (case hv => exact rfl))
        refine w_kFmtS (Nat.le_trans hl (by decide)) ?_
        refine w_kJs (by rw [Str.empty_append]; exact Nat.le_trans hl (by decide)) ?_
        (with_reducible refine w_Js ?_)
        (with_reducible refine w_c ?_)
        refine w_kJs (by rw [Str.empty_append, cat_len, l1]; exact Nat.le_trans (Nat.add_le_add_right hl 1) (by decide)) ?_
        (with_reducible refine w_Js ?_)
        (with_reducible refine w_fmt ?_)
        (with_reducible refine w_op ?_)
        ((with_reducible refine' w_var ?hv ?_); (case hv => exact rfl))
        ((with_reducible refine' w_var ?hv ?_); (case hv => exact rfl))
        (with_reducible refine w_I0 ?_)
        refine w_kFmtI (by unfold W32 at *; omega) ?_
        refine w_kJs (by rw [Str.empty_append, cat_len, cat_len, l1]; exact Nat.le_trans (Nat.add_le_add (Nat.add_le_add_right hl 1) ld) (by decide)) ?_
        (with_reducible refine w_Js0 ?_)
        (with_reducible refine w_name ?_)
        refine ⟨rfl, hle', some (.int r.2.1), some (.str r.2.2), ?_⟩
        rw [preT_succ hr]
        unfold nmT
        rw [if_neg e2, Str.empty_append]
        rfl
  · obtain ⟨rfl, hle, u, v, rfl⟩ := h
    rw [List.length_map] at hle ⊢
    (with_reducible refine w_ret ?_)
    ((with_reducible refine' w_var ?hv ?_); (case hv => exact rfl))
    have en : nameT rows ad = preT rows ad rows.length := preT_name hle fun x hx => by
      rw [List.drop_length] at hx
      cases hx
    rw [← en]
    exact q _ (Same.refl _)
theorem ok_address_of (Z : St1 K mg "address_of" s_address_of ["image", "name"]) : Cd P w K mg base 1 "address_of" spAdOf := by
  refine Z.cd sc_address_of (fun vs H Q E h => by obtain ⟨im, sy, rows, x, rfl, _⟩ := h; rfl) (fun f cdv A outer s H vs Q E hr h => ?_)
  obtain ⟨im, sy, rows, x, rfl, hS, hR, q⟩ := h
  obtain ⟨x1, x2, hi⟩ := hS.hi
  have hs := hS.hs
  refine ⟨_, (pss_cons (ps_for PassesOwn.never rfl (pi_tup (pe_ix ix_tup (pv 0) pe_int (fun _ _ => rfl))) (pg_tup rfl (pgs_cons (pg_name (i := 2) sc_address_of.nd rfl (.inl rfl)) (pgs_cons (pg_name (i := 3) sc_address_of.nd rfl (.inl rfl)) pgs_nil)))
      (pss_one (ps_if (pt_cmpR op_eq (pv 3) (pv 1) (nomark _)) (pss_one (ps_ret (pv 2))) pss_nil)))
      (pss_one (ps_ret (pe_un un_neg pe_int)))), ?_⟩
  (with_reducible refine w_seq ?_)
  (with_reducible refine w_for ?_)
  (with_reducible refine w_iT ?_)
  (with_reducible refine w_op ?_)
  ((with_reducible refine' w_var ?hv ?_); (case hv => exact rfl))
  (with_reducible refine w_c ?_)
  ((with_reducible refine' w_ixT ?hh ?ha ?_); (case hh => assumption); (case ha => exact rfl))
  refine w_forT (rows.map fun r => V.ref r.1) (fun i σ' H' => H' = H ∧ (∀ r ∈ rows.take i, ¬ r.2.2 = x) ∧ ∃ u v : Option V, σ' = [some (.ref im), some (.str x), u, v]) (.of hs) ⟨rfl, fun r h => (by cases h), none, none, rfl⟩ (fun i σ' H' _ h => .of (h.1 ▸ hs)) (fun i y σ' H' hx h => ?_) (fun σ' H' h => ?_)
  · obtain ⟨rfl, hno, u, v, rfl⟩ := h
    obtain ⟨r, _, hr, rfl⟩ := map_get' hx
    have hrow := hS.hr r (List.mem_of_getElem? hr)
    ((with_reducible refine' w_gTup ?hh ?hn ?_); (case hh => assumption); (case hn => exact rfl))
    (with_reducible refine w_gCons ?_)
    (with_reducible refine w_name ?_)
    (with_reducible refine w_gCons ?_)
    (with_reducible refine w_name ?_)
    (with_reducible refine w_gNil ?_)
    (with_reducible refine w_ifS ?_)
    (with_reducible refine w_test ?_)
    (with_reducible refine w_op ?_)
    ((with_reducible refine' w_var ?hv ?_); (case hv => exact rfl))
    ((with_reducible refine' w_var ?hv ?_); (case hv => exact rfl))
    (with_reducible refine w_eqS ?_)
    (with_reducible refine w_bl ?_)
    refine w_dec (fun e => ?_) (fun e => ?_)
    · (with_reducible refine w_ret ?_)
      ((with_reducible refine' w_var ?hv ?_); (case hv => exact rfl))
      have en : adT rows x = r.2.1 := by
        unfold adT
        obtain ⟨hi', e1⟩ := List.getElem?_eq_some_iff.mp hr
        have ef : (rows.find? fun r => decide (r.2.2 = x)) = some r := by
          rw [List.find?_eq_some_iff_getElem]
          refine ⟨decide_eq_true e, i, hi', e1, fun j hj => ?_⟩
          have := hno rows[j] (List.mem_take_iff_getElem.mpr ⟨j, by omega, rfl⟩)
          simpa using this
        rw [ef]
      rw [← en]
      exact q _ (Same.refl _)
    · (with_reducible refine w_next ?_)
      refine ⟨rfl, fun z hz => ?_, _, _, rfl⟩
      rw [take_more hr] at hz
      rcases List.mem_append.mp hz with hz | hz
      · exact hno z hz
      · rw [List.mem_singleton.mp hz]; exact e
  · obtain ⟨rfl, hno, u, v, rfl⟩ := h
    rw [List.length_map, List.take_length] at hno
    (with_reducible refine w_ret ?_)
    (with_reducible refine w_un ?_)
    (with_reducible refine w_c ?_)
    (with_reducible refine w_U ?_)
    have en : adT rows x = -1 := by
      unfold adT
      have ef : (rows.find? fun r => decide (r.2.2 = x)) = none := List.find?_eq_none.mpr fun z hz => by simpa using hno z hz
      rw [ef]
    rw [← en]
    exact q _ (Same.refl _)
end
end K06

open PySem.W
namespace K06
theorem sc_law : FnScope ["script", "draw", "image", "symbols", "k", "place", "j", "at", "count", "due", "near", "name", "last", "text", "places", "row"] ["script"] (defScope s_law) := ⟨rfl, rfl, rfl, by decide +kernel, rfl, by decide +kernel, by decide +kernel⟩
/-! ### texts of lines are texts of signs -/
theorem ops_ok : ∀ p ∈ opsT, PyData.strOk p.1 = true := by decide +kernel
theorem insT_ok {n : Nat} {op fm : Str} {xs : List Int} (h : Ins n op fm xs) : PyData.strOk (insT op fm xs) = true := by
  refine sO_cat (sO_cat (ops_ok _ (List.mem_of_getElem? h.at_)) (by decide +kernel)) (sO_join _ (by decide +kernel) _ fun y hy => ?_)
  unfold opsTx at hy
  obtain ⟨p, _, rfl⟩ := List.mem_map.mp hy
  unfold opT
  split
  · exact sO_cat (by decide +kernel) (sO_dc _)
  · exact sO_dc _
theorem lineT_ok (gs : List Sg) (ad : Int) : PyData.strOk (lineT gs ad) = true := by
  refine sO_cat (sO_cat (sO_hex _) (by decide +kernel)) ?_
  unfold placeT
  split
  · cases e : decF (wdF gs ad) with
    | none => unfold wordT; rw [e]; exact sO_cat (by decide +kernel) (sO_hex _)
    | some p =>
      obtain ⟨n, fm, h1, h2⟩ := decF_inv (op := p.1) (xs := p.2) e
      rw [wordT_some h1 h2]
      exact insT_ok h1
  · decide +kernel
theorem codeL_ok (gs : List Sg) (ad : Int) (c : Nat) : ∀ x ∈ codeL gs ad c, PyData.strOk x = true := fun x hx => by
  unfold codeL at hx
  obtain ⟨k, _, rfl⟩ := List.mem_map.mp hx
  exact lineT_ok _ _
/-! ### rows of symbols as data -/
def nmsL : List Str := ["a", "b", "main", "x_9"]
structure RyP (H : Hp) (r : Ry) : Prop where
  w : W32 r.2.1
  n : r.2.2 ∈ nmsL
  h : H r.1 = some (.tup [.int r.2.1, .str r.2.2])
theorem nms_ok : ∀ x ∈ nmsL, PyData.strOk x = true ∧ x.length ≤ 10 := by decide +kernel
theorem ry_dp {K : PySem.W.Frag} {H : Hp} : ∀ {rows : List Ry}, (∀ r ∈ rows, RyP H r) → DpAll K H (rows.map fun r => V.ref r.1) (rows.map fun r => .tuple [.int r.2.1, .str r.2.2])
  | [], _ => .nil
  | r :: rs, h => .cons (.tup (.of (h r List.mem_cons_self).h) (.cons (.int _) (.cons (.str _) .nil))) (ry_dp fun x hx => h x (List.mem_cons_of_mem _ hx))
theorem ry_lay : ∀ {rows : List Ry}, (∀ r ∈ rows, PyData.strOk r.2.2 = true) → PyData.canLayAll0 (rows.map fun r => PyData.tuple [.int r.2.1, .str r.2.2]) = true ∧ PyData.depthAll (rows.map fun r => PyData.tuple [.int r.2.1, .str r.2.2]) ≤ 1
  | [], _ => by simp [PyData.canLayAll0, PyData.depthAll]
  | r :: rs, h => by
    obtain ⟨h1, h2⟩ := ry_lay (rows := rs) fun x hx => h x (List.mem_cons_of_mem _ hx)
    have h3 := h r List.mem_cons_self
    constructor
    · simp only [List.map_cons, PyData.canLayAll0, PyData.canLay0, h3, Bool.true_and, Bool.and_true]
      exact h1
    · simp only [List.map_cons, PyData.depthAll, PyData.depth]
      omega
theorem ry_shaped {rows : List Ry} (h : ∀ r ∈ rows, PyData.strOk r.2.2 = true) : SeqAt.shaped (.list (rows.map fun r => PyData.tuple [.int r.2.1, .str r.2.2])) = true := by
  obtain ⟨h1, h2⟩ := ry_lay h
  simp only [SeqAt.shaped, PyData.canLay0, PyData.depth, h1, Bool.true_and, decide_eq_true_eq]
  exact decide_eq_true (Nat.le_trans (Nat.add_le_add_right h2 1) (show (1 + 1 : Nat) ≤ 64 from by decide))
theorem pm_inv {α β : Type} {f : α → β} : ∀ {us ys : List β}, us.Perm ys → ∀ xs : List α, us = xs.map f → ∃ zs : List α, zs.Perm xs ∧ ys = zs.map f := by
  intro us ys h
  induction h with
  | nil => intro xs e; exact ⟨xs, .refl _, e⟩
  | cons x h ih =>
    intro xs e
    cases xs with
    | nil => cases e
    | cons a r =>
      cases e
      obtain ⟨zs, h1, h2⟩ := ih r rfl
      exact ⟨a :: zs, h1.cons a, by rw [h2]; rfl⟩
  | swap x y l =>
    intro xs e
    match xs, e with
    | a :: b :: r, e =>
      cases e
      exact ⟨b :: a :: r, .swap _ _ _, rfl⟩
  | trans h1 h2 ih1 ih2 =>
    intro xs e
    obtain ⟨zs, p1, rfl⟩ := ih1 xs e
    obtain ⟨ws, p2, e2⟩ := ih2 zs rfl
    exact ⟨ws, p2.trans p1, e2⟩
theorem kF_ry {H : Hp} {r : Ry} (h : RyP H r) : kF H (.ref r.1) = r.2.1 := by
  show (match H r.1 with | some (.tup (.int i :: _)) => i | _ => 0) = r.2.1
  rw [h.h]
theorem adT_min {rows : List Ry} (asc : (rows.map (·.2.1)).Pairwise (· ≤ ·)) {x : Str} {m : Int} (h1 : m ∈ (rows.filter fun r => decide (r.2.2 = x)).map (·.2.1)) (h2 : ∀ y ∈ (rows.filter fun r => decide (r.2.2 = x)).map (·.2.1), m ≤ y) : adT rows x = m := by
  unfold adT
  rw [← List.head?_filter]
  have as2 : ((rows.filter fun r => decide (r.2.2 = x)).map (·.2.1)).Pairwise (· ≤ ·) := asc.sublist (List.filter_sublist.map _)
  revert h1 h2 as2
  cases rows.filter fun r => decide (r.2.2 = x) with
  | nil => intro h1; cases h1
  | cons r rs =>
    intro h1 h2 as2
    show r.2.1 = m
    have a : m ≤ r.2.1 := h2 r.2.1 List.mem_cons_self
    rcases List.mem_cons.mp h1 with e | e
    · exact e.symm
    · have z : r.2.1 ≤ m := (List.pairwise_cons.mp as2).1 m e
      omega
theorem adT_nil {rows : List Ry} {x : Str} (h : (rows.filter fun r => decide (r.2.2 = x)) = []) : adT rows x = -1 := by
  unfold adT
  rw [← List.head?_filter, h]
  rfl
def spLaw (K : PySem.W.Frag) : Sp := fun vs H Q _ => ∃ (a : Addr) (ns : List Int), vs = [.ref a] ∧ SqL K H a (ns.map V.int) ∧ ns.length ≤ 63 ∧ ∀ H', Q (.bl true) H'
theorem filt1 {α : Type} {p : α → Bool} {r : α} (h : p r = true) : [r].filter p = [r] := by rw [List.filter_cons_of_pos h]; rfl
theorem filt0 {α : Type} {p : α → Bool} {r : α} (h : p r = false) : [r].filter p = [] := by rw [List.filter_cons_of_neg (by rw [h]; decide)]; rfl
theorem DrawC.tk {H H' : Hp} {d cc : Addr} (h : DrawC H d cc) (b : But d H H') : TK H H' := by
  obtain ⟨⟨xs, e⟩, _⟩ := h.hdl
  exact .lst b e
theorem RyP.tk {H H' : Hp} {r : Ry} (h : RyP H r) (k : TK H H') : RyP H' r := ⟨h.w, h.n, k _ _ h.h⟩
theorem TK.tr {H H1 H2 : Hp} (a : TK H H1) (b : TK H1 H2) : TK H H2 := fun x xs h => b x xs (a x xs h)
theorem pick_nm {k : Int} (h0 : 0 ≤ k) (h1 : k < 4) : ∃ nm, nm ∈ nmsL ∧ atI [V.str "a", V.str "b", V.str "main", V.str "x_9"] k = some (.str nm) := by
  obtain ⟨v, hv, hat⟩ := pick_any [V.str "a", V.str "b", V.str "main", V.str "x_9"] h0 h1
  simp only [List.mem_cons, List.not_mem_nil, or_false] at hv
  unfold nmsL
  rcases hv with rfl | rfl | rfl | rfl
  · exact ⟨_, by simp, hat⟩
  · exact ⟨_, by simp, hat⟩
  · exact ⟨_, by simp, hat⟩
  · exact ⟨_, by simp, hat⟩
theorem last_of {α : Type} {l : List α} (h : l ≠ []) : ∃ r, l.getLast? = some r ∧ r ∈ l ∧ l[l.length - 1]? = some r := by
  have e : l.getLast? = some (l.getLast h) := List.getLast?_eq_some_getLast h
  exact ⟨l.getLast h, e, List.getLast_mem h, by rw [← List.getLast?_eq_getElem?, e]⟩
section
variable {P : Program} {w : World} {K : PySem.W.Frag} {mg : Str → Option Value} {base : Heap}
theorem ok_law (b_int : mg "int" = none) (b_len : mg "len" = none) (b_range : mg "range" = none) (b_tuple : mg "tuple" = none) (b_str : mg "str" = none) (b_sorted : mg "sorted" = none) (b_min : mg "min" = none)
    (c_law_draw : Cd P w K mg base 1 "_law_draw" (spDraw K)) (c_law_take : Cd P w K mg base 1 "_law_take" spTake) (c_law_image : Cd P w K mg base 11 "_law_image" spImage) (c_law_line : Cd P w K mg base 4 "_law_line" (spLineP K)) (c_show_code : Cd P w K mg base 6 "show_code" (spCode K)) (c_name_at : Cd P w K mg base 1 "name_at" spName) (c_address_of : Cd P w K mg base 1 "address_of" spAdOf)
    {f : Addr} {fd : FuncData} (F : Fun K "law" "law" s_law f fd) : RunG P w K mg base f fd "script" (spLaw K) := by
  refine runG_of (k := 12) F sc_law ⟨rfl, by decide, by decide⟩ (fun cdv s H vs Q hr h => ?_)
  obtain ⟨a, ns, rfl, hS, hlen, q⟩ := h
  have hu := hu_of hr
  refine ⟨_, (pss_cons (ps_set (i := 1) sc_law.nd rfl (.inl rfl) (pe_cd c_law_draw hr (by first | decide | omega) (by rfl) (pa_cons (pv 0) pa_nil)))
      (pss_cons (ps_set (i := 2) sc_law.nd rfl (.inr rfl) (pe_cd c_law_image hr (by first | decide | omega) (by rfl) (pa_cons (pv 1) (pa_cons pe_int pa_nil))))
      (pss_cons (ps_set (i := 3) sc_law.nd rfl (.inr rfl) (pe_lst pa_nil))
      (Evl.pss_cut (ps_for PassesOwn.never rfl (pi_range1 (by rfl) b_range (pa_cons (pe_cd c_law_take hr (by first | decide | omega) (by rfl) (pa_cons (pv 1) (pa_cons pe_int pa_nil))) pa_nil)) (pg_name (i := 4) sc_law.nd rfl (.inl rfl))
      (pss_cons (ps_set (i := 5) sc_law.nd rfl (.inl rfl) (pe_op op_add (pe_ix ix_tup (pv 2) pe_int (fun _ _ => rfl)) (pe_op op_mul pe_int (pe_cd c_law_take hr (by first | decide | omega) (by rfl) (pa_cons (pv 1) (pa_cons pe_int pa_nil))))))
      (pss_one (ps_expr (pe_bm PySem.F.plainAttrs_list PySem.F.slot_list_append PySem.F.type_list_append mt_append (pv 3) (pa_cons (pe_tup (pa_cons (pe_ifExp (pt_cmpR op_gt (pe_cd c_law_take hr (by first | decide | omega) (by rfl) (pa_cons (pv 1) (pa_cons pe_int pa_nil))) pe_int (nomark _)) (pv 5) (pe_op op_sub (pe_op op_pow pe_int pe_int) pe_int)) (pa_cons (pe_ix ix_list (pe_lst (pa_cons pe_str (pa_cons pe_str (pa_cons pe_str (pa_cons pe_str pa_nil))))) (pe_cd c_law_take hr (by first | decide | omega) (by rfl) (pa_cons (pv 1) (pa_cons pe_int pa_nil))) (fun _ _ => rfl)) pa_nil))) pa_nil))))))
      (pss_cons (ps_set (i := 3) sc_law.nd rfl (.inr rfl) (pe_callB cr_sortedT (by rfl) b_sorted (by decide +kernel) (pa_cons (pe_lc (own := [("row", 15)]) rfl sc_law.nd (pi_list (pv 3)) (blkOk_by (own := [("row", 15)]) (N := ["script", "draw", "image", "symbols", "k", "place", "j", "at", "count", "due", "near", "name", "last", "text", "places", "row"]) (sc := (defScope s_law)) (by decide +kernel)) (fun _ _ _ _ _ => (pg_name (i := 15) sc_law.nd rfl (.inl rfl))) (fun _ _ _ _ _ => (pts_one (pt_cmpR op_eq (pe_bmK (K' := K) (by rfl) PySem.F.plainAttrs_list PySem.F.slot_list_count PySem.F.type_list_count (mt_lcountDK (K' := K) (by rfl) hr.units) (pv 3) (pa_cons (pv 15) pa_nil)) pe_int (nomark _)))) (fun _ _ _ _ _ => (pv 15))) pa_nil)))
      (pss_cons (ps_set (i := 2) sc_law.nd rfl (.inr rfl) (pe_tup (pa_cons (pe_ix ix_tup (pv 2) pe_int (fun _ _ => rfl)) (pa_cons (pe_ix ix_tup (pv 2) pe_int (fun _ _ => rfl)) (pa_cons (pe_callTy call_tupQ (by rfl) b_tuple (by decide +kernel) (pa_cons (pv 3) pa_nil)) pa_nil)))))
      (pss_cons (ps_for PassesOwn.never rfl (pi_range1 (by rfl) b_range (pa_cons pe_int pa_nil)) (pg_name (i := 6) sc_law.nd rfl (.inl rfl))
      (Evl.pss_cut (ps_set (i := 7) sc_law.nd rfl (.inr rfl) (pe_ix ix_list (pe_lst (pa_cons (pe_ix ix_tup (pv 2) pe_int (fun _ _ => rfl)) (pa_cons (pe_op op_add (pe_ix ix_tup (pv 2) pe_int (fun _ _ => rfl)) pe_int) (pa_cons (pe_op op_sub (pe_ix ix_tup (pv 2) pe_int (fun _ _ => rfl)) pe_int) (pa_cons (pe_op op_add (pe_ix ix_tup (pv 2) pe_int (fun _ _ => rfl)) (pe_op op_mul pe_int (pe_cd c_law_take hr (by first | decide | omega) (by rfl) (pa_cons (pv 1) (pa_cons pe_int pa_nil))))) (pa_cons (pe_op op_sub (pe_op op_pow pe_int pe_int) pe_int) pa_nil)))))) (pe_cd c_law_take hr (by first | decide | omega) (by rfl) (pa_cons (pv 1) (pa_cons pe_int pa_nil))) (fun _ _ => rfl)))
      (pss_cons (ps_set (i := 8) sc_law.nd rfl (.inl rfl) (pe_cd c_law_take hr (by first | decide | omega) (by rfl) (pa_cons (pv 1) (pa_cons pe_int pa_nil))))
      (pss_cons (ps_setLc (i := 9) (own := [("k", 4)]) rfl sc_law.nd rfl rfl (sw_true rfl rfl rfl (by decide +kernel)) (pi_range1 (by rfl) b_range (pa_cons (pv 8) pa_nil)) (blkOk_by (own := [("k", 4)]) (N := ["script", "draw", "image", "symbols", "k", "place", "j", "at", "count", "due", "near", "name", "last", "text", "places", "row"]) (sc := (defScope s_law)) (by decide +kernel)) (fun _ _ _ _ _ => (pg_name (i := 4) sc_law.nd rfl (.inl rfl))) (fun _ _ _ _ _ => pts_nil) (fun _ _ _ _ _ => (pe_cd c_law_line hr (by first | decide | omega) (by rfl) (pa_cons (pv 2) (pa_cons (pe_op op_mod (pe_callTy call_intQ (by rfl) b_int (by decide +kernel) (pa_cons (pe_op op_add (pv 7) (pe_op op_mul pe_int (pv 4))) pa_nil)) (pe_op op_pow pe_int pe_int)) pa_nil)))))
      (pss_cons (ps_if (pt_cmpR (op_neD hr.units) (pe_cd c_show_code hr (by first | decide | omega) (by rfl) (pa_cons (pv 2) (pa_cons (pv 7) (pa_cons (pv 8) pa_nil)))) (pv 9) (nomark _)) (pss_one (ps_ret pe_bl)) pss_nil)
      (pss_cons (ps_setLc (i := 10) (own := [("row", 15)]) rfl sc_law.nd rfl rfl (sw_true rfl rfl rfl (by decide +kernel)) (pi_list (pv 3)) (blkOk_by (own := [("row", 15)]) (N := ["script", "draw", "image", "symbols", "k", "place", "j", "at", "count", "due", "near", "name", "last", "text", "places", "row"]) (sc := (defScope s_law)) (by decide +kernel)) (fun _ _ _ _ _ => (pg_name (i := 15) sc_law.nd rfl (.inl rfl))) (fun _ _ _ _ _ => (pts_one (pt_cmpR op_le (pe_ix (ix_tupK (K' := K) (by rfl)) (pv 15) pe_int (fun _ _ => rfl)) (pv 7) (nomark _)))) (fun _ _ _ _ _ => (pv 15)))
      (pss_cons (ps_set (i := 11) sc_law.nd rfl (.inl rfl) pe_str)
      (Evl.pss_cut (ps_if (pt_cmpR (op_neD hr.units) (pv 10) (pe_lst pa_nil) (nomark _)) (pss_cons (ps_set (i := 12) sc_law.nd rfl (.inl rfl) (pe_ix ix_list (pv 10) (pe_op op_sub (pe_callB call_lenQ (by rfl) b_len PySem.boot_len (pa_cons (pv 10) pa_nil)) pe_int) (fun _ _ => rfl)))
      (pss_one (ps_set (i := 11) sc_law.nd rfl (.inl rfl) (pe_ifExp (pt_cmpR op_eq (pe_ix ix_tup (pv 12) pe_int (fun _ _ => rfl)) (pv 7) (nomark _)) (pe_ix ix_tup (pv 12) pe_int (fun _ _ => rfl)) (pe_op op_addSQ (pe_op op_addSQ (pe_ix ix_tup (pv 12) pe_int (fun _ _ => rfl)) pe_str) (pe_callTy call_strQ (by rfl) b_str (by decide +kernel) (pa_cons (pe_op op_sub (pv 7) (pe_ix ix_tup (pv 12) pe_int (fun _ _ => rfl))) pa_nil))))))) pss_nil)
      (pss_one (ps_if (pt_cmpR op_ne (pe_cd c_name_at hr (by first | decide | omega) (by rfl) (pa_cons (pv 2) (pa_cons (pv 7) pa_nil))) (pv 11) (nomark _)) (pss_one (ps_ret pe_bl)) pss_nil))))))))))
      (pss_cons (ps_for PassesOwn.never rfl (pi_list (pe_lst (pa_cons pe_str (pa_cons pe_str (pa_cons pe_str (pa_cons pe_str (pa_cons pe_str pa_nil))))))) (pg_name (i := 13) sc_law.nd rfl (.inr rfl))
      (pss_cons (ps_setLc (i := 14) (own := [("row", 15)]) rfl sc_law.nd rfl rfl (sw_true rfl rfl rfl (by decide +kernel)) (pi_list (pv 3)) (blkOk_by (own := [("row", 15)]) (N := ["script", "draw", "image", "symbols", "k", "place", "j", "at", "count", "due", "near", "name", "last", "text", "places", "row"]) (sc := (defScope s_law)) (by decide +kernel)) (fun _ _ _ _ _ => (pg_name (i := 15) sc_law.nd rfl (.inl rfl))) (fun _ _ _ _ _ => (pts_one (pt_cmpR op_eq (pe_ix (ix_tupK (K' := K) (by rfl)) (pv 15) pe_int (fun _ _ => rfl)) (pv 13) (nomark _)))) (fun _ _ _ _ _ => (pe_ix (ix_tupK (K' := K) (by rfl)) (pv 15) pe_int (fun _ _ => rfl))))
      (pss_one (ps_if (pt_cmpR op_ne (pe_cd c_address_of hr (by first | decide | omega) (by rfl) (pa_cons (pv 2) (pa_cons (pv 13) pa_nil))) (pe_ifExp (pt_cmpR (op_neD hr.units) (pv 14) (pe_lst pa_nil) (nomark _)) (pe_callB (cr_min rfl) (by rfl) b_min (by decide +kernel) (pa_cons (pv 14) pa_nil)) (pe_un un_neg pe_int)) (nomark _)) (pss_one (ps_ret pe_bl)) pss_nil))))
      (pss_one (ps_ret pe_bl)))))))))), ?_⟩
  (with_reducible refine w_seq ?_)
  (with_reducible refine w_asg ?_)
  (with_reducible refine w_call ?_)
  (with_reducible refine w_cons ?_)
  ((with_reducible refine' w_var ?hv ?_); (case hv => exact rfl))
  (with_reducible refine w_nil ?_)
  refine ⟨a, ns, rfl, hS, hlen, fun d cc H1 _ _ _ hd => ?_⟩
  (with_reducible refine w_name ?_)
  (with_reducible refine w_seq ?_)
  (with_reducible refine w_asg ?_)
  (with_reducible refine w_call ?_)
  (with_reducible refine w_cons ?_)
  ((with_reducible refine' w_var ?hv ?_); (case hv => exact rfl))
  (with_reducible refine w_cons ?_)
  (with_reducible refine w_c ?_)
  (with_reducible refine w_nil ?_)
  refine ⟨d, cc, 5, rfl, hd, by decide, by decide, fun t b x1 x2 x3 H2 hI hok hd2 b2 => ?_⟩
  (with_reducible refine w_name ?_)
  (with_reducible refine w_seq ?_)
  (with_reducible refine w_asg ?_)
  (with_reducible refine w_lst ?_)
  (with_reducible refine w_nil ?_)
  obtain ⟨sg, sy0, s1, s2, s3, v1, v2, v3, y1, y2, y3, h1, h2, h3, h4, h5, h6, h7, h8, _⟩ := id hI
  obtain ⟨gs, egs⟩ : ∃ gs : List Sg, gs = [⟨s1, v1, b, x1, false, true⟩, ⟨s2, v2, b + 2048, x2, true, false⟩, ⟨s3, v3, b + 4096, x3, false, false⟩] := ⟨_, rfl⟩
  have IA : ImAt H2 t sg gs := ⟨⟨_, _, h1⟩, by rw [h2, egs]; rfl, fun g hg => by
    rw [egs] at hg
    simp only [List.mem_cons, List.not_mem_nil, or_false] at hg
    rcases hg with rfl | rfl | rfl
    · exact ⟨h3, h4⟩
    · exact ⟨h5, h6⟩
    · exact ⟨h7, h8⟩⟩
  have gl : gs.length = 3 := by rw [egs]; rfl
  have hb := hok.hb
  have gb : ∀ g ∈ gs, 0 ≤ g.lo ∧ ∀ x ∈ g.bs, B8 x := fun g hg => by
    rw [egs] at hg
    simp only [List.mem_cons, List.not_mem_nil, or_false] at hg
    rcases hg with rfl | rfl | rfl
    · exact ⟨by show 0 ≤ b; omega, hok.b1⟩
    · exact ⟨by show 0 ≤ b + 2048; omega, hok.b2⟩
    · exact ⟨by show 0 ≤ b + 4096; omega, hok.b3⟩
  have G : GOk gs [] := ⟨by omega, fun g hg => (gb g hg).2, fun g hg => (gb g hg).1, (fun _ h => by cases h), Nat.zero_le _⟩
  refine w_kLst (Nat.zero_le _) fun sl H3 n3 sm3 hs3 => ?_
  (with_reducible refine w_name ?_)
  have hd3 := hd2.same sm3
  have sld : sl ≠ d := hd2.ne n3
  have slc : sl ≠ cc := hd2.nec n3
  obtain ⟨⟨xs2, hdx2⟩, _⟩ := hd2.hdl
  have k3 : TK H2 H3 := fun x xs e => sm3 _ _ e
  refine Evl.q_cut (M := fun σ' H' => ∃ (rows : List Ry) (u4 u5 : Option V), TK H2 H' ∧ DrawC H' d cc ∧ H' sl = some (.lst (rows.map fun r => V.ref r.1)) ∧ (∀ r ∈ rows, RyP H' r) ∧ rows.length ≤ 5 ∧ σ' = [some (.ref a), some (.ref d), some (.ref t), some (.ref sl), u4, u5, none, none, none, none, none, none, none, none, none, none]) ?_ ?_
  · (with_reducible refine w_for ?_)
    (with_reducible refine w_rng1 ?_)
    (with_reducible refine w_cons ?_)
    (with_reducible refine w_call ?_)
    (with_reducible refine w_cons ?_)
    ((with_reducible refine' w_var ?hv ?_); (case hv => exact rfl))
    (with_reducible refine w_cons ?_)
    (with_reducible refine w_c ?_)
    (with_reducible refine w_nil ?_)
    refine w_take hd3 (by decide) (by decide) fun n H4 n0 n5 hd4 b4 => ?_
    have k4 : TK H2 H4 := fun x xs e => b4 _ _ (ne_of e hdx2 (by intro z; cases z)) (k3 _ _ e)
    refine w_forR n.toNat (fun i σ' H' => ∃ (rows : List Ry) (u4 u5 : Option V), TK H2 H' ∧ DrawC H' d cc ∧ H' sl = some (.lst (rows.map fun r => V.ref r.1)) ∧ (∀ r ∈ rows, RyP H' r) ∧ rows.length = i ∧ σ' = [some (.ref a), some (.ref d), some (.ref t), some (.ref sl), u4, u5, none, none, none, none, none, none, none, none, none, none]) rfl (by omega) ⟨[], none, none, k4, hd4, b4 _ _ sld hs3, (fun _ h => by cases h), rfl, rfl⟩ (fun i σ' H' hi h => ?_) (fun σ' H' h => ?_)
    · obtain ⟨rows, u4, u5, k5, hd5, hsl5, hr5, rfl, rfl⟩ := h
      have hi5 := k5 _ _ h1
      (with_reducible refine w_name ?_)
      (with_reducible refine w_seq ?_)
      (with_reducible refine w_asg ?_)
      (with_reducible refine w_op ?_)
      (with_reducible refine w_op ?_)
      ((with_reducible refine' w_var ?hv ?_); (case hv => exact rfl))
      (with_reducible refine w_c ?_)
      ((with_reducible refine' w_ixT ?hh ?ha ?_); (case hh => assumption); (case ha => exact rfl))
      (with_reducible refine w_op ?_)
      (with_reducible refine w_c ?_)
      (with_reducible refine w_call ?_)
      (with_reducible refine w_cons ?_)
      ((with_reducible refine' w_var ?hv ?_); (case hv => exact rfl))
      (with_reducible refine w_cons ?_)
      (with_reducible refine w_c ?_)
      (with_reducible refine w_nil ?_)
      refine w_take hd5 (by decide) (by decide) fun y H6 y0 y1 hd6 b6 => ?_
      have hsl6 := b6 _ _ sld hsl5
      ((with_reducible refine w_I ?hc ?_); (case hc => walk_at "side"))
      (with_reducible refine w_I0 ?_)
      (with_reducible refine w_name ?_)
      (with_reducible refine w_drop ?_)
      (with_reducible refine w_bm ?_)
      ((with_reducible refine' w_var ?hv ?_); (case hv => exact rfl))
      ((with_reducible refine' w_tyL ?hh ?_); (case hh => assumption))
      (with_reducible refine w_cons ?_)
      (with_reducible refine w_tup ?_)
      (with_reducible refine w_cons ?_)
      (with_reducible refine w_if ?_)
      (with_reducible refine w_test ?_)
      (with_reducible refine w_op ?_)
      (with_reducible refine w_call ?_)
      (with_reducible refine w_cons ?_)
      ((with_reducible refine' w_var ?hv ?_); (case hv => exact rfl))
      (with_reducible refine w_cons ?_)
      (with_reducible refine w_c ?_)
      (with_reducible refine w_nil ?_)
      refine w_take hd6 (by decide) (by decide) fun z H7 z0 z1 hd7 b7 => ?_
      (with_reducible refine w_c ?_)
      (with_reducible refine w_I0 ?_)
      (with_reducible refine w_bl ?_)
      refine w_dec (fun e => ?_) (fun e => ?_)
      · ((with_reducible refine' w_var ?hv ?_); (case hv => exact rfl))
        (with_reducible refine w_cons ?_)
        (with_reducible refine w_op ?_)
        (with_reducible refine w_lst ?_)
        (with_reducible refine w_cons ?_)
        (with_reducible refine w_c ?_)
        (with_reducible refine w_cons ?_)
        (with_reducible refine w_c ?_)
        (with_reducible refine w_cons ?_)
        (with_reducible refine w_c ?_)
        (with_reducible refine w_cons ?_)
        (with_reducible refine w_c ?_)
        (with_reducible refine w_nil ?_)
        refine w_kLst (by show 4 ≤ sizeLine; decide) fun l H8 nl s8 hl => ?_
        (with_reducible refine w_call ?_)
        (with_reducible refine w_cons ?_)
        ((with_reducible refine' w_var ?hv ?_); (case hv => exact rfl))
        (with_reducible refine w_cons ?_)
        (with_reducible refine w_c ?_)
        (with_reducible refine w_nil ?_)
        refine w_take (hd7.same s8) (by decide) (by decide) fun g H9 g0 g1 hd9 b9 => ?_
        have hl9 := b9 _ _ (hd7.ne nl) hl
        obtain ⟨nm, hnm, hat⟩ := pick_nm g0 g1
        refine w_ixL hl9 hat ?_
        (with_reducible refine w_nil ?_)
        refine w_kTup (by show 2 ≤ sizeLine; decide) fun rt H10 nrt s10 hrt => ?_
        have hslA := s10 _ _ (b9 _ _ sld (s8 _ _ (b7 _ _ sld hsl6)))
        have hdA := hd9.same s10
        (with_reducible refine w_nil ?_)
        refine w_append hslA (by rw [List.length_map]; exact small1000 (by omega)) fun H11 hsl11 b11 => ?_
        skip
        have kA : TK H' H11 := (hd5.tk b6).tr ((hd6.tk b7).tr ((TK.same s8).tr (((hd7.same s8).tk b9).tr ((TK.same s10).tr (.lst b11 hslA)))))
        exact ⟨rows ++ [(rt, _, nm)], _, _, k5.tr kA, hdA.keep (fun o e => b11 _ _ sld.symm e) (fun o e => b11 _ _ slc.symm e), by rw [hsl11, List.map_append]; rfl, fun r hr => by
          rcases List.mem_append.mp hr with hr | hr
          · exact (hr5 r hr).tk kA
          · rw [List.mem_singleton.mp hr]; exact ⟨⟨by show 0 ≤ b + 4 * y; omega, by show b + 4 * y < 4294967296; omega⟩, hnm, b11 _ _ (ne_of hrt hslA (by intro z; cases z)) hrt⟩, by rw [List.length_append]; rfl, rfl⟩
      · (with_reducible refine w_op ?_)
        (with_reducible refine w_op ?_)
        (with_reducible refine w_c ?_)
        (with_reducible refine w_c ?_)
        (with_reducible refine w_p32 ?_)
        (with_reducible refine w_c ?_)
        (with_reducible refine w_I0 ?_)
        (with_reducible refine w_cons ?_)
        (with_reducible refine w_op ?_)
        (with_reducible refine w_lst ?_)
        (with_reducible refine w_cons ?_)
        (with_reducible refine w_c ?_)
        (with_reducible refine w_cons ?_)
        (with_reducible refine w_c ?_)
        (with_reducible refine w_cons ?_)
        (with_reducible refine w_c ?_)
        (with_reducible refine w_cons ?_)
        (with_reducible refine w_c ?_)
        (with_reducible refine w_nil ?_)
        refine w_kLst (by show 4 ≤ sizeLine; decide) fun l H8 nl s8 hl => ?_
        (with_reducible refine w_call ?_)
        (with_reducible refine w_cons ?_)
        ((with_reducible refine' w_var ?hv ?_); (case hv => exact rfl))
        (with_reducible refine w_cons ?_)
        (with_reducible refine w_c ?_)
        (with_reducible refine w_nil ?_)
        refine w_take (hd7.same s8) (by decide) (by decide) fun g H9 g0 g1 hd9 b9 => ?_
        have hl9 := b9 _ _ (hd7.ne nl) hl
        obtain ⟨nm, hnm, hat⟩ := pick_nm g0 g1
        refine w_ixL hl9 hat ?_
        (with_reducible refine w_nil ?_)
        refine w_kTup (by show 2 ≤ sizeLine; decide) fun rt H10 nrt s10 hrt => ?_
        have hslA := s10 _ _ (b9 _ _ sld (s8 _ _ (b7 _ _ sld hsl6)))
        have hdA := hd9.same s10
        (with_reducible refine w_nil ?_)
        refine w_append hslA (by rw [List.length_map]; exact small1000 (by omega)) fun H11 hsl11 b11 => ?_
        skip
        have kA : TK H' H11 := (hd5.tk b6).tr ((hd6.tk b7).tr ((TK.same s8).tr (((hd7.same s8).tk b9).tr ((TK.same s10).tr (.lst b11 hslA)))))
        exact ⟨rows ++ [(rt, _, nm)], _, _, k5.tr kA, hdA.keep (fun o e => b11 _ _ sld.symm e) (fun o e => b11 _ _ slc.symm e), by rw [hsl11, List.map_append]; rfl, fun r hr => by
          rcases List.mem_append.mp hr with hr | hr
          · exact (hr5 r hr).tk kA
          · rw [List.mem_singleton.mp hr]; exact ⟨⟨(by decide : (0 : Int) ≤ 4294967295), (by decide : (4294967295 : Int) < 4294967296)⟩, hnm, b11 _ _ (ne_of hrt hslA (by intro z; cases z)) hrt⟩, by rw [List.length_append]; rfl, rfl⟩
    · obtain ⟨rows, u4, u5, k5, hd5, hsl5, hr5, hl5, rfl⟩ := h
      exact ⟨rows, u4, u5, k5, hd5, hsl5, hr5, by omega, rfl⟩
  rintro σ4 H4 ⟨rows, u4, u5, k4, hd4, hsl4, hr4, hl4, rfl⟩
  (with_reducible refine w_seq ?_)
  (with_reducible refine w_asg ?_)
  (with_reducible refine w_cb ?_)
  (with_reducible refine w_cons ?_)
  (with_reducible refine w_lc ?_)
  (with_reducible refine w_iL ?_)
  ((with_reducible refine' w_var ?hv ?_); (case hv => exact rfl))
  refine w_lcL (rows.map fun r => V.ref r.1) (fun D i H' => H4 D = none ∧ Same H4 H' ∧ ∃ zs : List Ry, (∀ r ∈ zs, r ∈ rows) ∧ zs.length ≤ i ∧ H' D = some (.lst (zs.map fun r => V.ref r.1))) (.of hsl4) (fun D nD => ⟨nD, Same.new nD, [], (fun _ h => by cases h), Nat.zero_le _, upd_same⟩) (fun D i H' hi h => .of (h.2.1 _ _ hsl4)) (fun D i x H' hx h => ?_) (fun D H5 nD h => ?_)
  · obtain ⟨nD, s5, zs, hzs, lzs, hD⟩ := h
    obtain ⟨r, _, hr, rfl⟩ := map_get' hx
    have hrm := List.mem_of_getElem? hr
    have hsl5 := s5 _ _ hsl4
    have hr5 : ∀ r ∈ rows, RyP H' r := fun r h => (hr4 r h).tk (.same s5)
    (with_reducible refine w_name ?_)
    refine ⟨rfl, ?_⟩
    (with_reducible refine w_test ?_)
    (with_reducible refine w_op ?_)
    (with_reducible refine w_bm ?_)
    ((with_reducible refine' w_var ?hv ?_); (case hv => exact rfl))
    ((with_reducible refine' w_tyL ?hh ?_); (case hh => assumption))
    (with_reducible refine w_cons ?_)
    ((with_reducible refine' w_var ?hv ?_); (case hv => exact rfl))
    (with_reducible refine w_nil ?_)
    refine w_cntD (.of hsl5) (fun y hy => ?_) (d := .tuple [.int r.2.1, .str r.2.2]) (.tup (.of (hr5 r hrm).h) (.cons (.int _) (.cons (.str _) .nil))) ?_ ?_ fun n => ?_
    · obtain ⟨r', hr', rfl⟩ := List.mem_map.mp hy
      refine ⟨.tuple [.int r'.2.1, .str r'.2.2], .tup (.of (hr5 r' hr').h) (.cons (.int _) (.cons (.str _) .nil)), ?_⟩
      simp only [PyData.canLay0, PyData.canLayAll0, (nms_ok _ (hr4 r' hr').n).1, Bool.true_and]
    · simp only [PyData.canLay0, PyData.canLayAll0, (nms_ok _ (hr4 r hrm).n).1, Bool.true_and]
    · simp only [PyData.depth, PyData.depthAll]
      decide
    · (with_reducible refine w_c ?_)
      (with_reducible refine w_eqI ?_)
      (with_reducible refine w_bl ?_)
      refine w_dec (fun e => ?_) (fun e => ?_)
      · ((with_reducible refine' w_var ?hv ?_); (case hv => exact rfl))
        refine ⟨zs.map fun r => V.ref r.1, hD, by rw [List.length_map]; exact small1000 (by have := (List.getElem?_eq_some_iff.mp hr).1; omega), nD, fun b o h => ?_, zs ++ [r], fun x hx => ?_, by rw [List.length_append]; simp only [List.length_cons, List.length_nil]; omega, by rw [List.map_append]; exact upd_same⟩
        · rw [upd_ne (ne_of_none h nD)]; exact s5 _ _ h
        · rcases List.mem_append.mp hx with hx | hx
          · exact hzs x hx
          · rw [List.mem_singleton.mp hx]; exact hrm
      · exact ⟨nD, s5, zs, hzs, by omega, hD⟩
  · obtain ⟨_, s5, zs, hzs, lzs, hD⟩ := h
    rw [List.length_map] at lzs
    have hz5 : ∀ r ∈ zs, RyP H5 r := fun r h => (hr4 r (hzs r h)).tk (.same s5)
    (with_reducible refine w_nil ?_)
    refine w_sortedT (.of hD) (fun x hx => ?_) fun ys p H6 hp has np s6 hys => ?_
    · obtain ⟨r, hr, rfl⟩ := List.mem_map.mp hx
      exact ⟨r.1, _, _, rfl, (hz5 r hr).h⟩
    obtain ⟨rw0, pw, rfl⟩ := pm_inv hp.symm zs rfl
    have hw5 : ∀ r ∈ rw0, RyP H5 r := fun r h => hz5 r (pw.mem_iff.mp h)
    have asc : (rw0.map (·.2.1)).Pairwise (· ≤ ·) := by
      rw [List.map_map] at has
      have e : (rw0.map ((kF H5) ∘ fun r => V.ref r.1)) = rw0.map (·.2.1) := List.map_congr_left fun r hr => kF_ry (hw5 r hr)
      rw [e] at has
      exact has
    have hw6 : ∀ r ∈ rw0, RyP H6 r := fun r h => (hw5 r h).tk (.same s6)
    have hl6 : rw0.length ≤ 5 := by rw [pw.length_eq]; omega
    have k6 : TK H2 H6 := k4.tr ((TK.same s5).tr (.same s6))
    have hd6 := (hd4.same s5).same s6
    have hi6 := k6 _ _ h1
    (with_reducible refine w_name ?_)
    (with_reducible refine w_seq ?_)
    (with_reducible refine w_asg ?_)
    (with_reducible refine w_tup ?_)
    (with_reducible refine w_cons ?_)
    (with_reducible refine w_op ?_)
    ((with_reducible refine' w_var ?hv ?_); (case hv => exact rfl))
    (with_reducible refine w_c ?_)
    ((with_reducible refine' w_ixT ?hh ?ha ?_); (case hh => assumption); (case ha => exact rfl))
    (with_reducible refine w_cons ?_)
    (with_reducible refine w_op ?_)
    ((with_reducible refine' w_var ?hv ?_); (case hv => exact rfl))
    (with_reducible refine w_c ?_)
    ((with_reducible refine' w_ixT ?hh ?ha ?_); (case hh => assumption); (case ha => exact rfl))
    (with_reducible refine w_cons ?_)
    (with_reducible refine w_cb ?_)
    (with_reducible refine w_cons ?_)
    ((with_reducible refine' w_var ?hv ?_); (case hv => exact rfl))
    (with_reducible refine w_nil ?_)
    refine w_tupL (.of hys) fun sy H7 nsy s7 hsy => ?_
    (with_reducible refine w_nil ?_)
    refine w_kTup (by show 3 ≤ sizeLine; decide) fun im H8 nim s8 him => ?_
    have k8 : TK H2 H8 := k6.tr ((TK.same s7).tr (.same s8))
    have hd8 := (hd6.same s7).same s8
    have hsy8 := s8 _ _ hsy
    have hsp8 := s8 _ _ (s7 _ _ hys)
    have hw8 : ∀ r ∈ rw0, RyP H8 r := fun r h => (hw6 r h).tk ((TK.same s7).tr (.same s8))
    have IM : ImAt H8 im sg gs := ⟨⟨_, _, him⟩, k8 _ _ IA.hs, fun g hg => ⟨k8 _ _ (IA.hg g hg).ha, k8 _ _ (IA.hg g hg).hv⟩⟩
    have SY : SyAt H8 im sy rw0 := ⟨⟨_, _, him⟩, hsy8, fun r h => (hw8 r h).h⟩
    have RO : RyOk rw0 := ⟨by omega, asc, fun r h => (hw8 r h).w, fun r h => (nms_ok _ (hw8 r h).n).2⟩
    have ro : ∀ r ∈ rw0, PyData.strOk r.2.2 = true := fun r h => (nms_ok _ (hw8 r h).n).1
    have pd : p ≠ d := (hd4.same s5).ne np
    clear hs3 hsl4 hr4 hz5 hw5 hw6 hsy hys hD hzs k4 k6 hi6
    (with_reducible refine w_name ?_)
    (with_reducible refine w_seq ?_)
    (with_reducible refine w_for ?_)
    (with_reducible refine w_rng1 ?_)
    (with_reducible refine w_cons ?_)
    (with_reducible refine w_c ?_)
    (with_reducible refine w_nil ?_)
    refine w_forR 4 (fun i σ' H' => But d H8 H' ∧ DrawC H' d cc ∧ ∃ u4 u5 u6 u7 u8 u9 u10 u11 u12 u13 u14 u15 : Option V, σ' = [some (.ref a), some (.ref d), some (.ref im), some (.ref p), u4, u5, u6, u7, u8, u9, u10, u11, u12, u13, u14, u15]) rfl (by decide) ⟨But.refl _ _, hd8, u4, u5, none, none, none, none, none, none, none, none, none, none, rfl⟩ (fun i σ' H9 hi h => ?_) (fun σ' H9 h => ?_)
    · obtain ⟨b9, hd9, u4, u5, u6, u7, u8, u9, u10, u11, u12, u13, u14, u15, rfl⟩ := h
      have k9 : TK H8 H9 := hd8.tk b9
      have hsp9 := b9 _ _ pd hsp8
      have hi9 := k9 _ _ him
      (with_reducible refine w_name ?_)
      refine Evl.q_cut (M := fun σ' H' => ∃ ad : Int, W32 ad ∧ But d H9 H' ∧ DrawC H' d cc ∧ σ' = [some (.ref a), some (.ref d), some (.ref im), some (.ref p), u4, u5, some (.int (i : Nat)), some (.int ad), u8, u9, u10, u11, u12, u13, u14, u15]) ?_ ?_
      · (with_reducible refine w_asg ?_)
        (with_reducible refine w_op ?_)
        (with_reducible refine w_lst ?_)
        (with_reducible refine w_cons ?_)
        (with_reducible refine w_op ?_)
        ((with_reducible refine' w_var ?hv ?_); (case hv => exact rfl))
        (with_reducible refine w_c ?_)
        ((with_reducible refine' w_ixT ?hh ?ha ?_); (case hh => assumption); (case ha => exact rfl))
        (with_reducible refine w_cons ?_)
        (with_reducible refine w_op ?_)
        (with_reducible refine w_op ?_)
        ((with_reducible refine' w_var ?hv ?_); (case hv => exact rfl))
        (with_reducible refine w_c ?_)
        ((with_reducible refine' w_ixT ?hh ?ha ?_); (case hh => assumption); (case ha => exact rfl))
        (with_reducible refine w_c ?_)
        (with_reducible refine w_I0 ?_)
        (with_reducible refine w_cons ?_)
        (with_reducible refine w_op ?_)
        (with_reducible refine w_op ?_)
        ((with_reducible refine' w_var ?hv ?_); (case hv => exact rfl))
        (with_reducible refine w_c ?_)
        ((with_reducible refine' w_ixT ?hh ?ha ?_); (case hh => assumption); (case ha => exact rfl))
        (with_reducible refine w_c ?_)
        (with_reducible refine w_I0 ?_)
        (with_reducible refine w_cons ?_)
        (with_reducible refine w_op ?_)
        (with_reducible refine w_op ?_)
        ((with_reducible refine' w_var ?hv ?_); (case hv => exact rfl))
        (with_reducible refine w_c ?_)
        ((with_reducible refine' w_ixT ?hh ?ha ?_); (case hh => assumption); (case ha => exact rfl))
        (with_reducible refine w_op ?_)
        (with_reducible refine w_c ?_)
        (with_reducible refine w_call ?_)
        (with_reducible refine w_cons ?_)
        ((with_reducible refine' w_var ?hv ?_); (case hv => exact rfl))
        (with_reducible refine w_cons ?_)
        (with_reducible refine w_c ?_)
        (with_reducible refine w_nil ?_)
        refine w_take hd9 (by decide) (by decide) fun y H10 y0 y1 hd10 b10 => ?_
        ((with_reducible refine w_I ?hc ?_); (case hc => walk_at "side"))
        (with_reducible refine w_I0 ?_)
        (with_reducible refine w_cons ?_)
        (with_reducible refine w_op ?_)
        (with_reducible refine w_op ?_)
        (with_reducible refine w_c ?_)
        (with_reducible refine w_c ?_)
        (with_reducible refine w_p32 ?_)
        (with_reducible refine w_c ?_)
        (with_reducible refine w_I0 ?_)
        (with_reducible refine w_nil ?_)
        refine w_kLst (by show 5 ≤ sizeLine; decide) fun l H11 nl s11 hl => ?_
        (with_reducible refine w_call ?_)
        (with_reducible refine w_cons ?_)
        ((with_reducible refine' w_var ?hv ?_); (case hv => exact rfl))
        (with_reducible refine w_cons ?_)
        (with_reducible refine w_c ?_)
        (with_reducible refine w_nil ?_)
        refine w_take (hd10.same s11) (by decide) (by decide) fun z H12 z0 z1 hd12 b12 => ?_
        have hl12 := b12 _ _ (hd10.ne nl) hl
        obtain ⟨v, hv, hat⟩ := pick_any [V.int b, V.int (b + 2), V.int (b - 8), V.int (b + 4 * y), V.int 4294967292] z0 z1
        obtain ⟨ad, wad, rfl⟩ : ∃ ad : Int, W32 ad ∧ v = .int ad := by
          simp only [List.mem_cons, List.not_mem_nil, or_false] at hv
          rcases hv with rfl | rfl | rfl | rfl | rfl
          · exact ⟨_, ⟨by omega, by omega⟩, rfl⟩
          · exact ⟨_, ⟨by omega, by omega⟩, rfl⟩
          · exact ⟨_, ⟨by omega, by omega⟩, rfl⟩
          · exact ⟨_, ⟨by omega, by omega⟩, rfl⟩
          · exact ⟨_, ⟨by decide, by decide⟩, rfl⟩
        refine w_ixL hl12 hat ?_
        (with_reducible refine w_name ?_)
        exact ⟨ad, wad, fun bb o n e => b12 bb o n (s11 bb o (b10 bb o n e)), hd12, rfl⟩
      rintro σA HA ⟨ad, wad, bA, hdA, rfl⟩
      have b8A : But d H8 HA := b9.trans bA
      (with_reducible refine w_seq ?_)
      (with_reducible refine w_asg ?_)
      (with_reducible refine w_call ?_)
      (with_reducible refine w_cons ?_)
      ((with_reducible refine' w_var ?hv ?_); (case hv => exact rfl))
      (with_reducible refine w_cons ?_)
      (with_reducible refine w_c ?_)
      (with_reducible refine w_nil ?_)
      refine w_take hdA (by decide) (by decide) fun c HB c0 c1 hdB bB => ?_
      obtain ⟨cn, rfl⟩ := Int.eq_ofNat_of_zero_le c0
      have b8B := b8A.trans bB
      have kB := hd8.tk b8B
      have IB := IM.tk kB
      (with_reducible refine w_name ?_)
      (with_reducible refine w_seq ?_)
      (with_reducible refine w_asg ?_)
      (with_reducible refine w_lc ?_)
      (with_reducible refine w_rng1 ?_)
      (with_reducible refine w_cons ?_)
      ((with_reducible refine' w_var ?hv ?_); (case hv => exact rfl))
      (with_reducible refine w_nil ?_)
      refine w_lcR cn (fun D i H' => HB D = none ∧ Same HB H' ∧ H' D = some (.lst ((codeL gs ad i).map V.str))) (by omega) (by omega) (fun D nD => ⟨nD, Same.new nD, upd_same⟩) (fun D i H' hi h => ?_) (fun Du HC nDu h => ?_)
      · obtain ⟨nD, sx, hD⟩ := h
        (with_reducible refine w_name ?_)
        refine ⟨rfl, ?_⟩
        (with_reducible refine w_yes ?_)
        (with_reducible refine w_itT ?_)
        (with_reducible refine w_call ?_)
        (with_reducible refine w_cons ?_)
        ((with_reducible refine' w_var ?hv ?_); (case hv => exact rfl))
        (with_reducible refine w_cons ?_)
        (with_reducible refine w_op ?_)
        (with_reducible refine w_cb ?_)
        (with_reducible refine w_cons ?_)
        (with_reducible refine w_op ?_)
        ((with_reducible refine' w_var ?hv ?_); (case hv => exact rfl))
        (with_reducible refine w_op ?_)
        (with_reducible refine w_c ?_)
        ((with_reducible refine' w_var ?hv ?_); (case hv => exact rfl))
        ((with_reducible refine w_I ?hc ?_); (case hc => walk_at "side"))
        (with_reducible refine w_I0 ?_)
        (with_reducible refine w_nil ?_)
        (with_reducible refine w_int1 ?_)
        (with_reducible refine w_op ?_)
        (with_reducible refine w_c ?_)
        (with_reducible refine w_c ?_)
        (with_reducible refine w_p32 ?_)
        ((with_reducible refine w_I ?hc ?_); (case hc => walk_at "side"))
        (with_reducible refine w_nil ?_)
        refine ⟨im, sg, gs, [], _, rfl, IB.same sx, G, ⟨Int.emod_nonneg _ (by decide), Int.emod_lt_of_pos _ (by decide)⟩, fun H' s' => ?_⟩
        refine ⟨_, s' _ _ hD, by rw [List.length_map]; unfold codeL; rw [List.length_map, List.length_range]; exact small1000 (by omega), nD, fun b o h => ?_, ?_⟩
        · rw [upd_ne (ne_of_none h nD)]; exact s' _ _ (sx b o h)
        · rw [upd_same]; unfold codeL; rw [List.range_succ, List.map_append, List.map_append]; rfl
      · obtain ⟨_, sC, hD⟩ := h
        (with_reducible refine w_name ?_)
        (with_reducible refine w_seq ?_)
        (with_reducible refine w_ifS ?_)
        (with_reducible refine w_test ?_)
        (with_reducible refine w_op ?_)
        (with_reducible refine w_call ?_)
        (with_reducible refine w_cons ?_)
        ((with_reducible refine' w_var ?hv ?_); (case hv => exact rfl))
        (with_reducible refine w_cons ?_)
        ((with_reducible refine' w_var ?hv ?_); (case hv => exact rfl))
        (with_reducible refine w_cons ?_)
        ((with_reducible refine' w_var ?hv ?_); (case hv => exact rfl))
        (with_reducible refine w_nil ?_)
        refine ⟨im, sg, gs, [], ad, cn, rfl, IB.same sC, G, wad.1, wad.2, by omega, fun D2 HE nD2 sE hD2 => ?_⟩
        ((with_reducible refine' w_var ?hv ?_); (case hv => exact rfl))
        refine w_neD (d := .list ((codeL gs ad cn).map .str)) (.lst (.of hD2) (dpStrs _)) (.lst (.of (sE _ _ hD)) (dpStrs _)) (strs_shaped (codeL_ok _ _ _)) ?_
        have b8E : But d H8 HE := b8B.trans (.of (sC.trans sE))
        have hdE := (hdB.same sC).same sE
        have kE := hd8.tk b8E
        have hspE := b8E _ _ pd hsp8
        (with_reducible refine w_bl ?_)
        (with_reducible refine w_itF ?_)
        (with_reducible refine w_next ?_)
        (with_reducible refine w_seq ?_)
        (with_reducible refine w_asg ?_)
        (with_reducible refine w_lc ?_)
        (with_reducible refine w_iL ?_)
        ((with_reducible refine' w_var ?hv ?_); (case hv => exact rfl))
        refine w_lcL (rw0.map fun r => V.ref r.1) (fun D i H' => HE D = none ∧ Same HE H' ∧ H' D = some (.lst (((rw0.take i).filter fun r => decide (r.2.1 ≤ ad)).map fun r => V.ref r.1))) (.of hspE) (fun D nD => ⟨nD, Same.new nD, upd_same⟩) (fun D i H' hi h => .of (h.2.1 _ _ hspE)) (fun D i x H' hx h => ?_) (fun D HF nD h => ?_)
        · obtain ⟨nD, sx, hD'⟩ := h
          obtain ⟨r, _, hr, rfl⟩ := map_get' hx
          have hrr := (((hw8 r (List.mem_of_getElem? hr)).tk kE).tk (.same sx)).h
          (with_reducible refine w_name ?_)
          refine ⟨rfl, ?_⟩
          (with_reducible refine w_test ?_)
          (with_reducible refine w_op ?_)
          (with_reducible refine w_op ?_)
          ((with_reducible refine' w_var ?hv ?_); (case hv => exact rfl))
          (with_reducible refine w_c ?_)
          ((with_reducible refine' w_ixT ?hh ?ha ?_); (case hh => assumption); (case ha => exact rfl))
          ((with_reducible refine' w_var ?hv ?_); (case hv => exact rfl))
          (with_reducible refine w_I0 ?_)
          (with_reducible refine w_bl ?_)
          refine w_dec (fun e => ?_) (fun e => ?_)
          · ((with_reducible refine' w_var ?hv ?_); (case hv => exact rfl))
            refine ⟨_, hD', by rw [List.length_map]; exact small1000 (Nat.le_trans (List.length_filter_le _ _) (by rw [List.length_take]; omega)), nD, fun b o h => ?_, ?_⟩
            · rw [upd_ne (ne_of_none h nD)]; exact sx _ _ h
            · rw [upd_same, take_more hr, List.filter_append, List.map_append, filt1 (p := fun r : Ry => decide (r.2.1 ≤ ad)) (decide_eq_true e)]; rfl
          · refine ⟨nD, sx, ?_⟩
            rw [hD', take_more hr, List.filter_append, List.map_append, filt0 (p := fun r : Ry => decide (r.2.1 ≤ ad)) (decide_eq_false e), List.map_nil, List.append_nil]
        · obtain ⟨_, sF, hDF⟩ := h
          rw [List.length_map, List.take_length] at hDF
          have kF8 : TK H8 HF := kE.tr (.same sF)
          (with_reducible refine w_name ?_)
          (with_reducible refine w_seq ?_)
          (with_reducible refine w_asg ?_)
          (with_reducible refine w_c ?_)
          (with_reducible refine w_name ?_)
          refine Evl.q_cut (M := fun σ' H' => Same HF H' ∧ ∃ u12 : Option V, σ' = [some (.ref a), some (.ref d), some (.ref im), some (.ref p), u4, u5, some (.int (i : Nat)), some (.int ad), some (.int (cn : Nat)), some (.ref Du), some (.ref D), some (.str (nameT rw0 ad)), u12, u13, u14, u15]) ?_ ?_
          · (with_reducible refine w_ifS ?_)
            (with_reducible refine w_test ?_)
            (with_reducible refine w_op ?_)
            ((with_reducible refine' w_var ?hv ?_); (case hv => exact rfl))
            (with_reducible refine w_lst ?_)
            (with_reducible refine w_nil ?_)
            refine w_kLst (Nat.zero_le _) fun e0 HI ne0 sI he0 => ?_
            have hDI := sI _ _ hDF
            obtain ⟨fl, efl⟩ : ∃ fl : List Ry, fl = rw0.filter fun r => decide (r.2.1 ≤ ad) := ⟨_, rfl⟩
            have nmt : nameT rw0 ad = match fl.getLast? with | none => "" | some r => nmT ad r := by rw [efl]; rfl
            rw [← efl] at hDI hDF
            have flr : ∀ r ∈ fl, r ∈ rw0 := fun r h => by rw [efl] at h; exact (List.mem_filter.mp h).1
            have kI : TK H8 HI := kF8.tr (.same sI)
            refine w_neE0 (.of hDI) (ry_dp fun r h => (hw8 r (flr r h)).tk kI) (.of he0) (ry_shaped fun r h => ro r (flr r h)) ?_
            (with_reducible refine w_bl ?_)
            refine w_ndec (fun e => ?_) (fun e => ?_)
            · have nf : fl ≠ [] := fun z => e (by rw [z]; rfl)
              obtain ⟨r, g1, g2, g3⟩ := last_of nf
              have hrr := ((hw8 r (flr r g2)).tk kI)
              have hrh := hrr.h
              have wr := hrr.w
              have lr := (nms_ok _ hrr.n).2
              have pos : 0 < fl.length := List.length_pos_iff.mpr nf
              (with_reducible refine w_seq ?_)
              (with_reducible refine w_asg ?_)
              (with_reducible refine w_op ?_)
              ((with_reducible refine' w_var ?hv ?_); (case hv => exact rfl))
              (with_reducible refine w_op ?_)
              (with_reducible refine w_cb ?_)
              (with_reducible refine w_cons ?_)
              ((with_reducible refine' w_var ?hv ?_); (case hv => exact rfl))
              (with_reducible refine w_nil ?_)
              ((with_reducible refine' w_lenL ?hh ?_); (case hh => assumption))
              (with_reducible refine w_c ?_)
              (with_reducible refine w_I0 ?_)
              rw [List.length_map]
              refine w_ixL hDI (atI_of (v := .ref r.1) (by omega) (by rw [show ((fl.length : Int) - 1).toNat = fl.length - 1 by omega, List.getElem?_map, g3]; rfl)) ?_
              (with_reducible refine w_name ?_)
              (with_reducible refine w_asg ?_)
              (with_reducible refine w_if ?_)
              (with_reducible refine w_test ?_)
              (with_reducible refine w_op ?_)
              (with_reducible refine w_op ?_)
              ((with_reducible refine' w_var ?hv ?_); (case hv => exact rfl))
              (with_reducible refine w_c ?_)
              ((with_reducible refine' w_ixT ?hh ?ha ?_); (case hh => assumption); (case ha => exact rfl))
              ((with_reducible refine' w_var ?hv ?_); (case hv => exact rfl))
              (with_reducible refine w_eqI ?_)
              (with_reducible refine w_bl ?_)
              refine w_dec (fun e2 => ?_) (fun e2 => ?_)
              · (with_reducible refine w_op ?_)
                ((with_reducible refine' w_var ?hv ?_); (case hv => exact rfl))
                (with_reducible refine w_c ?_)
                ((with_reducible refine' w_ixT ?hh ?ha ?_); (case hh => assumption); (case ha => exact rfl))
                (with_reducible refine w_name ?_)
                have en : nameT rw0 ad = r.2.2 := by rw [nmt, g1]; exact if_pos e2
                exact ⟨sI, _, by rw [en]; rfl⟩
              · have l1 : ("+" : Str).length = 1 := by decide +kernel
                have lna : (ad - r.2.1).natAbs < 4294967296 := by unfold W32 at *; omega
                have ld := dcT_len lna
                (with_reducible refine w_op ?_)
                (with_reducible refine w_op ?_)
                (with_reducible refine w_op ?_)
                ((with_reducible refine' w_var ?hv ?_); (case hv => exact rfl))
                (with_reducible refine w_c ?_)
                ((with_reducible refine' w_ixT ?hh ?ha ?_); (case hh => assumption); (case ha => exact rfl))
                (with_reducible refine w_c ?_)
                refine w_addS (by rw [l1]; exact Nat.le_trans (Nat.add_le_add_right lr 1) (by decide)) ?_
                (with_reducible refine w_cb ?_)
                (with_reducible refine w_cons ?_)
                (with_reducible refine w_op ?_)
                ((with_reducible refine' w_var ?hv ?_); (case hv => exact rfl))
                (with_reducible refine w_op ?_)
                ((with_reducible refine' w_var ?hv ?_); (case hv => exact rfl))
                (with_reducible refine w_c ?_)
                ((with_reducible refine' w_ixT ?hh ?ha ?_); (case hh => assumption); (case ha => exact rfl))
                (with_reducible refine w_I0 ?_)
                (with_reducible refine w_nil ?_)
                refine w_strI lna ?_
                refine w_addS (by rw [cat_len, l1]; exact Nat.le_trans (Nat.add_le_add (Nat.add_le_add_right lr 1) ld) (by decide)) ?_
                (with_reducible refine w_name ?_)
                have en : nameT rw0 ad = r.2.2 ++ ("+" : Str) ++ dcT (ad - r.2.1) := by rw [nmt, g1]; exact if_neg e2
                exact ⟨sI, _, by rw [en]; rfl⟩
            · have nf : fl = [] := List.map_eq_nil_iff.mp e
              have en : nameT rw0 ad = "" := by rw [nmt, nf]; rfl
              (with_reducible refine w_next ?_)
              exact ⟨sI, _, by rw [en]; rfl⟩
          rintro σG HG ⟨sG, u12, rfl⟩
          have b8G : But d H8 HG := b8E.trans (.of (sF.trans sG))
          have hdG := (hdE.same sF).same sG
          (with_reducible refine w_ifS ?_)
          (with_reducible refine w_test ?_)
          (with_reducible refine w_op ?_)
          (with_reducible refine w_call ?_)
          (with_reducible refine w_cons ?_)
          ((with_reducible refine' w_var ?hv ?_); (case hv => exact rfl))
          (with_reducible refine w_cons ?_)
          ((with_reducible refine' w_var ?hv ?_); (case hv => exact rfl))
          (with_reducible refine w_nil ?_)
          refine ⟨im, sy, rw0, ad, rfl, ?_, RO, wad, fun HJ sJ => ?_⟩
          · have kG := hd8.tk b8G
            exact ⟨⟨_, _, kG _ _ him⟩, kG _ _ hsy8, fun r h => ((hw8 r h).tk kG).h⟩
          ((with_reducible refine' w_var ?hv ?_); (case hv => exact rfl))
          ((with_reducible refine w_ne ?hc ?_); (case hc => exact rfl))
          (with_reducible refine w_bl ?_)
          refine w_ndecF rfl ?_
          (with_reducible refine w_next ?_)
          exact ⟨b8G.trans (.of sJ), hdG.same sJ, _, _, _, _, _, _, _, _, _, _, _, _, rfl⟩
    · obtain ⟨b9, hd9, u4, u5, u6, u7, u8, u9, u10, u11, u12, u13, u14, u15, rfl⟩ := h
      (with_reducible refine w_seq ?_)
      (with_reducible refine w_for ?_)
      (with_reducible refine w_iL ?_)
      (with_reducible refine w_lst ?_)
      (with_reducible refine w_cons ?_)
      (with_reducible refine w_c ?_)
      (with_reducible refine w_cons ?_)
      (with_reducible refine w_c ?_)
      (with_reducible refine w_cons ?_)
      (with_reducible refine w_c ?_)
      (with_reducible refine w_cons ?_)
      (with_reducible refine w_c ?_)
      (with_reducible refine w_cons ?_)
      (with_reducible refine w_c ?_)
      (with_reducible refine w_nil ?_)
      refine w_kLst (by show 5 ≤ sizeLine; decide) fun tl HT nt sT hT => ?_
      have bT : But d H8 HT := b9.trans (.of sT)
      have kT := hd8.tk bT
      have hspT := bT _ _ pd hsp8
      have hiT := kT _ _ him
      skip
      refine w_forL [V.str "a", V.str "b", V.str "main", V.str "x_9", V.str "none"] (fun i σ' H' => Same HT H' ∧ ∃ u13 u14 u15 : Option V, σ' = [some (.ref a), some (.ref d), some (.ref im), some (.ref p), u4, u5, u6, u7, u8, u9, u10, u11, u12, u13, u14, u15]) (.of hT) ⟨Same.refl _, u13, u14, u15, rfl⟩ (fun i σ' H' _ h => .of (h.1 _ _ hT)) (fun i x σ' H' hx h => ?_) (fun σ' H' h => ?_)
      · obtain ⟨sx, u13, u14, u15, rfl⟩ := h
        obtain ⟨z, rfl⟩ : ∃ z, x = V.str z := by
          have hm := List.mem_of_getElem? hx
          simp only [List.mem_cons, List.not_mem_nil, or_false] at hm
          rcases hm with rfl | rfl | rfl | rfl | rfl <;> exact ⟨_, rfl⟩
        have hspx := sx _ _ hspT
        have kx : TK H8 H' := kT.tr (.same sx)
        (with_reducible refine w_name ?_)
        (with_reducible refine w_seq ?_)
        (with_reducible refine w_asg ?_)
        (with_reducible refine w_lc ?_)
        (with_reducible refine w_iL ?_)
        ((with_reducible refine' w_var ?hv ?_); (case hv => exact rfl))
        refine w_lcL (rw0.map fun r => V.ref r.1) (fun D i H'' => H' D = none ∧ Same H' H'' ∧ H'' D = some (.lst ((((rw0.take i).filter fun r => decide (r.2.2 = z)).map (·.2.1)).map V.int))) (.of hspx) (fun D nD => ⟨nD, Same.new nD, upd_same⟩) (fun D i H' hi h => .of (h.2.1 _ _ hspx)) (fun D i x H'' hx h => ?_) (fun D HF nD h => ?_)
        · obtain ⟨nD, sy', hD'⟩ := h
          obtain ⟨r, _, hr, rfl⟩ := map_get' hx
          have hrr := (((hw8 r (List.mem_of_getElem? hr)).tk kx).tk (.same sy')).h
          (with_reducible refine w_name ?_)
          refine ⟨rfl, ?_⟩
          (with_reducible refine w_test ?_)
          (with_reducible refine w_op ?_)
          (with_reducible refine w_op ?_)
          ((with_reducible refine' w_var ?hv ?_); (case hv => exact rfl))
          (with_reducible refine w_c ?_)
          ((with_reducible refine' w_ixT ?hh ?ha ?_); (case hh => assumption); (case ha => exact rfl))
          ((with_reducible refine' w_var ?hv ?_); (case hv => exact rfl))
          (with_reducible refine w_eqS ?_)
          (with_reducible refine w_bl ?_)
          refine w_dec (fun e => ?_) (fun e => ?_)
          · (with_reducible refine w_op ?_)
            ((with_reducible refine' w_var ?hv ?_); (case hv => exact rfl))
            (with_reducible refine w_c ?_)
            ((with_reducible refine' w_ixT ?hh ?ha ?_); (case hh => assumption); (case ha => exact rfl))
            refine ⟨_, hD', by rw [List.length_map, List.length_map]; exact small1000 (Nat.le_trans (List.length_filter_le _ _) (by rw [List.length_take]; omega)), nD, fun b o h => ?_, ?_⟩
            · rw [upd_ne (ne_of_none h nD)]; exact sy' _ _ h
            · rw [upd_same, take_more hr, List.filter_append, List.map_append, List.map_append, filt1 (p := fun r : Ry => decide (r.2.2 = z)) (decide_eq_true e)]; rfl
          · refine ⟨nD, sy', ?_⟩
            rw [hD', take_more hr, List.filter_append, List.map_append, filt0 (p := fun r : Ry => decide (r.2.2 = z)) (decide_eq_false e), List.map_nil, List.append_nil]
        · obtain ⟨_, sF, hDF⟩ := h
          rw [List.length_map, List.take_length] at hDF
          have kF : TK H8 HF := kx.tr (.same sF)
          (with_reducible refine w_name ?_)
          (with_reducible refine w_ifS ?_)
          (with_reducible refine w_test ?_)
          (with_reducible refine w_op ?_)
          (with_reducible refine w_call ?_)
          (with_reducible refine w_cons ?_)
          ((with_reducible refine' w_var ?hv ?_); (case hv => exact rfl))
          (with_reducible refine w_cons ?_)
          ((with_reducible refine' w_var ?hv ?_); (case hv => exact rfl))
          (with_reducible refine w_nil ?_)
          refine ⟨im, sy, rw0, z, rfl, ⟨⟨_, _, kF _ _ him⟩, kF _ _ hsy8, fun r h => ((hw8 r h).tk kF).h⟩, RO, fun HJ sJ => ?_⟩
          have hDJ := sJ _ _ hDF
          (with_reducible refine w_if ?_)
          (with_reducible refine w_test ?_)
          (with_reducible refine w_op ?_)
          ((with_reducible refine' w_var ?hv ?_); (case hv => exact rfl))
          (with_reducible refine w_lst ?_)
          (with_reducible refine w_nil ?_)
          refine w_kLst (Nat.zero_le _) fun e0 HI ne0 sI he0 => ?_
          have hDI := sI _ _ hDJ
          refine w_neE0 (.of hDI) (dpInts _) (.of he0) (ints_shaped _) ?_
          (with_reducible refine w_bl ?_)
          refine w_ndec (fun e => ?_) (fun e => ?_)
          · have nf : ((rw0.filter fun r => decide (r.2.2 = z)).map (·.2.1)) ≠ [] := fun z => e (by rw [z]; rfl)
            (with_reducible refine w_cb ?_)
            (with_reducible refine w_cons ?_)
            ((with_reducible refine' w_var ?hv ?_); (case hv => exact rfl))
            (with_reducible refine w_nil ?_)
            refine ⟨D, _, rfl, .of hDI, List.length_pos_iff.mpr nf, fun m hm hmin => ?_⟩
            (with_reducible refine w_neI ?_)
            (with_reducible refine w_bl ?_)
            refine w_ndecF (adT_min RO.asc hm hmin) ?_
            (with_reducible refine w_next ?_)
            exact ⟨sx.trans (sF.trans (sJ.trans sI)), _, _, _, rfl⟩
          · have nf : (rw0.filter fun r => decide (r.2.2 = z)) = [] := List.map_eq_nil_iff.mp (List.map_eq_nil_iff.mp e)
            (with_reducible refine w_un ?_)
            (with_reducible refine w_c ?_)
            (with_reducible refine w_U ?_)
            (with_reducible refine w_neI ?_)
            (with_reducible refine w_bl ?_)
            refine w_ndecF (adT_nil nf) ?_
            (with_reducible refine w_next ?_)
            exact ⟨sx.trans (sF.trans (sJ.trans sI)), _, _, _, rfl⟩
      · obtain ⟨sx, u13, u14, u15, rfl⟩ := h
        (with_reducible refine w_ret ?_)
        (with_reducible refine w_c ?_)
        exact q _
end
end K06

namespace K06
theorem all_mk {l : PySem.W.OpenLaw} {w : World} {K : PySem.W.Frag} {h : Heap} {mg : Str → Option Value} {fa : Addr} (X : K.In h) (G : h.Ns mainGlobals mg) (hfa : mg "law" = some (.ref fa))
    {f_encode : Addr} {od_encode an_encode : Option Addr} {sl_encode : Array (Option Value)} {oc_encode kV_encode dc_encode pm_encode cd_encode ct_encode : Value}
    {f_decode : Addr} {od_decode an_decode : Option Addr} {sl_decode : Array (Option Value)} {oc_decode kV_decode dc_decode pm_decode cd_decode ct_decode : Value}
    {f_immediate : Addr} {od_immediate an_immediate : Option Addr} {sl_immediate : Array (Option Value)} {oc_immediate kV_immediate dc_immediate pm_immediate cd_immediate ct_immediate : Value}
    {f_with_sign : Addr} {od_with_sign an_with_sign : Option Addr} {sl_with_sign : Array (Option Value)} {oc_with_sign kV_with_sign dc_with_sign pm_with_sign cd_with_sign ct_with_sign : Value}
    {f_find_segment : Addr} {od_find_segment an_find_segment : Option Addr} {sl_find_segment : Array (Option Value)} {oc_find_segment kV_find_segment dc_find_segment pm_find_segment cd_find_segment ct_find_segment : Value}
    {f_can_load : Addr} {od_can_load an_can_load : Option Addr} {sl_can_load : Array (Option Value)} {oc_can_load kV_can_load dc_can_load pm_can_load cd_can_load ct_can_load : Value}
    {f_can_fetch : Addr} {od_can_fetch an_can_fetch : Option Addr} {sl_can_fetch : Array (Option Value)} {oc_can_fetch kV_can_fetch dc_can_fetch pm_can_fetch cd_can_fetch ct_can_fetch : Value}
    {f_load_word : Addr} {od_load_word an_load_word : Option Addr} {sl_load_word : Array (Option Value)} {oc_load_word kV_load_word dc_load_word pm_load_word cd_load_word ct_load_word : Value}
    {f_first_memory : Addr} {od_first_memory an_first_memory : Option Addr} {sl_first_memory : Array (Option Value)} {oc_first_memory kV_first_memory dc_first_memory pm_first_memory cd_first_memory ct_first_memory : Value}
    {f_word_at : Addr} {od_word_at an_word_at : Option Addr} {sl_word_at : Array (Option Value)} {oc_word_at kV_word_at dc_word_at pm_word_at cd_word_at ct_word_at : Value}
    {f_show_instruction : Addr} {od_show_instruction an_show_instruction : Option Addr} {sl_show_instruction : Array (Option Value)} {oc_show_instruction kV_show_instruction dc_show_instruction pm_show_instruction cd_show_instruction ct_show_instruction : Value}
    {f_show_operand : Addr} {od_show_operand an_show_operand : Option Addr} {sl_show_operand : Array (Option Value)} {oc_show_operand kV_show_operand dc_show_operand pm_show_operand cd_show_operand ct_show_operand : Value}
    {f_show_code : Addr} {od_show_code an_show_code : Option Addr} {sl_show_code : Array (Option Value)} {oc_show_code kV_show_code dc_show_code pm_show_code cd_show_code ct_show_code : Value}
    {f_show_place : Addr} {od_show_place an_show_place : Option Addr} {sl_show_place : Array (Option Value)} {oc_show_place kV_show_place dc_show_place pm_show_place cd_show_place ct_show_place : Value}
    {f_show_word : Addr} {od_show_word an_show_word : Option Addr} {sl_show_word : Array (Option Value)} {oc_show_word kV_show_word dc_show_word pm_show_word cd_show_word ct_show_word : Value}
    {f_name_at : Addr} {od_name_at an_name_at : Option Addr} {sl_name_at : Array (Option Value)} {oc_name_at kV_name_at dc_name_at pm_name_at cd_name_at ct_name_at : Value}
    {f_address_of : Addr} {od_address_of an_address_of : Option Addr} {sl_address_of : Array (Option Value)} {oc_address_of kV_address_of dc_address_of pm_address_of cd_address_of ct_address_of : Value}
    {f_law_draw : Addr} {od_law_draw an_law_draw : Option Addr} {sl_law_draw : Array (Option Value)} {oc_law_draw kV_law_draw dc_law_draw pm_law_draw cd_law_draw ct_law_draw : Value}
    {f_law_take : Addr} {od_law_take an_law_take : Option Addr} {sl_law_take : Array (Option Value)} {oc_law_take kV_law_take dc_law_take pm_law_take cd_law_take ct_law_take : Value}
    {f_law_ops : Addr} {od_law_ops an_law_ops : Option Addr} {sl_law_ops : Array (Option Value)} {oc_law_ops kV_law_ops dc_law_ops pm_law_ops cd_law_ops ct_law_ops : Value}
    {f_law_word : Addr} {od_law_word an_law_word : Option Addr} {sl_law_word : Array (Option Value)} {oc_law_word kV_law_word dc_law_word pm_law_word cd_law_word ct_law_word : Value}
    {f_law_bytes : Addr} {od_law_bytes an_law_bytes : Option Addr} {sl_law_bytes : Array (Option Value)} {oc_law_bytes kV_law_bytes dc_law_bytes pm_law_bytes cd_law_bytes ct_law_bytes : Value}
    {f_law_label : Addr} {od_law_label an_law_label : Option Addr} {sl_law_label : Array (Option Value)} {oc_law_label kV_law_label dc_law_label pm_law_label cd_law_label ct_law_label : Value}
    {f_law_here : Addr} {od_law_here an_law_here : Option Addr} {sl_law_here : Array (Option Value)} {oc_law_here kV_law_here dc_law_here pm_law_here cd_law_here ct_law_here : Value}
    {f_law_put_word : Addr} {od_law_put_word an_law_put_word : Option Addr} {sl_law_put_word : Array (Option Value)} {oc_law_put_word kV_law_put_word dc_law_put_word pm_law_put_word cd_law_put_word ct_law_put_word : Value}
    {f_law_some : Addr} {od_law_some an_law_some : Option Addr} {sl_law_some : Array (Option Value)} {oc_law_some kV_law_some dc_law_some pm_law_some cd_law_some ct_law_some : Value}
    {f_law_register : Addr} {od_law_register an_law_register : Option Addr} {sl_law_register : Array (Option Value)} {oc_law_register kV_law_register dc_law_register pm_law_register cd_law_register ct_law_register : Value}
    {f_law_set : Addr} {od_law_set an_law_set : Option Addr} {sl_law_set : Array (Option Value)} {oc_law_set kV_law_set dc_law_set pm_law_set cd_law_set ct_law_set : Value}
    {f_law_alu : Addr} {od_law_alu an_law_alu : Option Addr} {sl_law_alu : Array (Option Value)} {oc_law_alu kV_law_alu dc_law_alu pm_law_alu cd_law_alu ct_law_alu : Value}
    {f_law_memory : Addr} {od_law_memory an_law_memory : Option Addr} {sl_law_memory : Array (Option Value)} {oc_law_memory kV_law_memory dc_law_memory pm_law_memory cd_law_memory ct_law_memory : Value}
    {f_law_if : Addr} {od_law_if an_law_if : Option Addr} {sl_law_if : Array (Option Value)} {oc_law_if kV_law_if dc_law_if pm_law_if cd_law_if ct_law_if : Value}
    {f_law_loop : Addr} {od_law_loop an_law_loop : Option Addr} {sl_law_loop : Array (Option Value)} {oc_law_loop kV_law_loop dc_law_loop pm_law_loop cd_law_loop ct_law_loop : Value}
    {f_law_call : Addr} {od_law_call an_law_call : Option Addr} {sl_law_call : Array (Option Value)} {oc_law_call kV_law_call dc_law_call pm_law_call cd_law_call ct_law_call : Value}
    {f_law_switch : Addr} {od_law_switch an_law_switch : Option Addr} {sl_law_switch : Array (Option Value)} {oc_law_switch kV_law_switch dc_law_switch pm_law_switch cd_law_switch ct_law_switch : Value}
    {f_law_rows : Addr} {od_law_rows an_law_rows : Option Addr} {sl_law_rows : Array (Option Value)} {oc_law_rows kV_law_rows dc_law_rows pm_law_rows cd_law_rows ct_law_rows : Value}
    {f_law_odd : Addr} {od_law_odd an_law_odd : Option Addr} {sl_law_odd : Array (Option Value)} {oc_law_odd kV_law_odd dc_law_odd pm_law_odd cd_law_odd ct_law_odd : Value}
    {f_law_code_words : Addr} {od_law_code_words an_law_code_words : Option Addr} {sl_law_code_words : Array (Option Value)} {oc_law_code_words kV_law_code_words dc_law_code_words pm_law_code_words cd_law_code_words ct_law_code_words : Value}
    {f_law_values : Addr} {od_law_values an_law_values : Option Addr} {sl_law_values : Array (Option Value)} {oc_law_values kV_law_values dc_law_values pm_law_values cd_law_values ct_law_values : Value}
    {f_law_image : Addr} {od_law_image an_law_image : Option Addr} {sl_law_image : Array (Option Value)} {oc_law_image kV_law_image dc_law_image pm_law_image cd_law_image ct_law_image : Value}
    {f_law_home : Addr} {od_law_home an_law_home : Option Addr} {sl_law_home : Array (Option Value)} {oc_law_home kV_law_home dc_law_home pm_law_home cd_law_home ct_law_home : Value}
    {f_law_read : Addr} {od_law_read an_law_read : Option Addr} {sl_law_read : Array (Option Value)} {oc_law_read kV_law_read dc_law_read pm_law_read cd_law_read ct_law_read : Value}
    {f_law_fetch : Addr} {od_law_fetch an_law_fetch : Option Addr} {sl_law_fetch : Array (Option Value)} {oc_law_fetch kV_law_fetch dc_law_fetch pm_law_fetch cd_law_fetch ct_law_fetch : Value}
    {f_law_hexadecimal : Addr} {od_law_hexadecimal an_law_hexadecimal : Option Addr} {sl_law_hexadecimal : Array (Option Value)} {oc_law_hexadecimal kV_law_hexadecimal dc_law_hexadecimal pm_law_hexadecimal cd_law_hexadecimal ct_law_hexadecimal : Value}
    {f_law_text : Addr} {od_law_text an_law_text : Option Addr} {sl_law_text : Array (Option Value)} {oc_law_text kV_law_text dc_law_text pm_law_text cd_law_text ct_law_text : Value}
    {f_law_line : Addr} {od_law_line an_law_line : Option Addr} {sl_law_line : Array (Option Value)} {oc_law_line kV_law_line dc_law_line pm_law_line cd_law_line ct_law_line : Value}
    {f_law : Addr} {od_law an_law : Option Addr} {sl_law : Array (Option Value)} {oc_law kV_law dc_law pm_law cd_law ct_law : Value}
    {tk_MASK : Tok}
    {tk_LOW_14 : Tok}
    {tk_LOW_18 : Tok}
    (a_encode : PySem.W.nsIn K mainGlobals "encode" = some (some (.ref f_encode))) (l_encode : K.lookup f_encode = some ⟨oc_encode, od_encode, .func (PySem.W.fnOf "encode" "encode" (defArgs s_encode) (defBody s_encode) (defScope s_encode) .none kV_encode dc_encode pm_encode an_encode cd_encode ct_encode), sl_encode⟩) (cc_encode : PySem.W.codeIn K cd_encode "encode" = true) (kk_encode : PySem.W.keepIn K (.ref f_encode) = true)
    (a_decode : PySem.W.nsIn K mainGlobals "decode" = some (some (.ref f_decode))) (l_decode : K.lookup f_decode = some ⟨oc_decode, od_decode, .func (PySem.W.fnOf "decode" "decode" (defArgs s_decode) (defBody s_decode) (defScope s_decode) .none kV_decode dc_decode pm_decode an_decode cd_decode ct_decode), sl_decode⟩) (cc_decode : PySem.W.codeIn K cd_decode "decode" = true) (kk_decode : PySem.W.keepIn K (.ref f_decode) = true)
    (a_immediate : PySem.W.nsIn K mainGlobals "_immediate" = some (some (.ref f_immediate))) (l_immediate : K.lookup f_immediate = some ⟨oc_immediate, od_immediate, .func (PySem.W.fnOf "_immediate" "_immediate" (defArgs s_immediate) (defBody s_immediate) (defScope s_immediate) .none kV_immediate dc_immediate pm_immediate an_immediate cd_immediate ct_immediate), sl_immediate⟩) (cc_immediate : PySem.W.codeIn K cd_immediate "_immediate" = true) (kk_immediate : PySem.W.keepIn K (.ref f_immediate) = true)
    (a_with_sign : PySem.W.nsIn K mainGlobals "_with_sign" = some (some (.ref f_with_sign))) (l_with_sign : K.lookup f_with_sign = some ⟨oc_with_sign, od_with_sign, .func (PySem.W.fnOf "_with_sign" "_with_sign" (defArgs s_with_sign) (defBody s_with_sign) (defScope s_with_sign) .none kV_with_sign dc_with_sign pm_with_sign an_with_sign cd_with_sign ct_with_sign), sl_with_sign⟩) (cc_with_sign : PySem.W.codeIn K cd_with_sign "_with_sign" = true) (kk_with_sign : PySem.W.keepIn K (.ref f_with_sign) = true)
    (a_find_segment : PySem.W.nsIn K mainGlobals "find_segment" = some (some (.ref f_find_segment))) (l_find_segment : K.lookup f_find_segment = some ⟨oc_find_segment, od_find_segment, .func (PySem.W.fnOf "find_segment" "find_segment" (defArgs s_find_segment) (defBody s_find_segment) (defScope s_find_segment) .none kV_find_segment dc_find_segment pm_find_segment an_find_segment cd_find_segment ct_find_segment), sl_find_segment⟩) (cc_find_segment : PySem.W.codeIn K cd_find_segment "find_segment" = true) (kk_find_segment : PySem.W.keepIn K (.ref f_find_segment) = true)
    (a_can_load : PySem.W.nsIn K mainGlobals "can_load" = some (some (.ref f_can_load))) (l_can_load : K.lookup f_can_load = some ⟨oc_can_load, od_can_load, .func (PySem.W.fnOf "can_load" "can_load" (defArgs s_can_load) (defBody s_can_load) (defScope s_can_load) .none kV_can_load dc_can_load pm_can_load an_can_load cd_can_load ct_can_load), sl_can_load⟩) (cc_can_load : PySem.W.codeIn K cd_can_load "can_load" = true) (kk_can_load : PySem.W.keepIn K (.ref f_can_load) = true)
    (a_can_fetch : PySem.W.nsIn K mainGlobals "can_fetch" = some (some (.ref f_can_fetch))) (l_can_fetch : K.lookup f_can_fetch = some ⟨oc_can_fetch, od_can_fetch, .func (PySem.W.fnOf "can_fetch" "can_fetch" (defArgs s_can_fetch) (defBody s_can_fetch) (defScope s_can_fetch) .none kV_can_fetch dc_can_fetch pm_can_fetch an_can_fetch cd_can_fetch ct_can_fetch), sl_can_fetch⟩) (cc_can_fetch : PySem.W.codeIn K cd_can_fetch "can_fetch" = true) (kk_can_fetch : PySem.W.keepIn K (.ref f_can_fetch) = true)
    (a_load_word : PySem.W.nsIn K mainGlobals "load_word" = some (some (.ref f_load_word))) (l_load_word : K.lookup f_load_word = some ⟨oc_load_word, od_load_word, .func (PySem.W.fnOf "load_word" "load_word" (defArgs s_load_word) (defBody s_load_word) (defScope s_load_word) .none kV_load_word dc_load_word pm_load_word an_load_word cd_load_word ct_load_word), sl_load_word⟩) (cc_load_word : PySem.W.codeIn K cd_load_word "load_word" = true) (kk_load_word : PySem.W.keepIn K (.ref f_load_word) = true)
    (a_first_memory : PySem.W.nsIn K mainGlobals "first_memory" = some (some (.ref f_first_memory))) (l_first_memory : K.lookup f_first_memory = some ⟨oc_first_memory, od_first_memory, .func (PySem.W.fnOf "first_memory" "first_memory" (defArgs s_first_memory) (defBody s_first_memory) (defScope s_first_memory) .none kV_first_memory dc_first_memory pm_first_memory an_first_memory cd_first_memory ct_first_memory), sl_first_memory⟩) (cc_first_memory : PySem.W.codeIn K cd_first_memory "first_memory" = true) (kk_first_memory : PySem.W.keepIn K (.ref f_first_memory) = true)
    (a_word_at : PySem.W.nsIn K mainGlobals "word_at" = some (some (.ref f_word_at))) (l_word_at : K.lookup f_word_at = some ⟨oc_word_at, od_word_at, .func (PySem.W.fnOf "word_at" "word_at" (defArgs s_word_at) (defBody s_word_at) (defScope s_word_at) .none kV_word_at dc_word_at pm_word_at an_word_at cd_word_at ct_word_at), sl_word_at⟩) (cc_word_at : PySem.W.codeIn K cd_word_at "word_at" = true) (kk_word_at : PySem.W.keepIn K (.ref f_word_at) = true)
    (a_show_instruction : PySem.W.nsIn K mainGlobals "show_instruction" = some (some (.ref f_show_instruction))) (l_show_instruction : K.lookup f_show_instruction = some ⟨oc_show_instruction, od_show_instruction, .func (PySem.W.fnOf "show_instruction" "show_instruction" (defArgs s_show_instruction) (defBody s_show_instruction) (defScope s_show_instruction) .none kV_show_instruction dc_show_instruction pm_show_instruction an_show_instruction cd_show_instruction ct_show_instruction), sl_show_instruction⟩) (cc_show_instruction : PySem.W.codeIn K cd_show_instruction "show_instruction" = true) (kk_show_instruction : PySem.W.keepIn K (.ref f_show_instruction) = true)
    (a_show_operand : PySem.W.nsIn K mainGlobals "_show_operand" = some (some (.ref f_show_operand))) (l_show_operand : K.lookup f_show_operand = some ⟨oc_show_operand, od_show_operand, .func (PySem.W.fnOf "_show_operand" "_show_operand" (defArgs s_show_operand) (defBody s_show_operand) (defScope s_show_operand) .none kV_show_operand dc_show_operand pm_show_operand an_show_operand cd_show_operand ct_show_operand), sl_show_operand⟩) (cc_show_operand : PySem.W.codeIn K cd_show_operand "_show_operand" = true) (kk_show_operand : PySem.W.keepIn K (.ref f_show_operand) = true)
    (a_show_code : PySem.W.nsIn K mainGlobals "show_code" = some (some (.ref f_show_code))) (l_show_code : K.lookup f_show_code = some ⟨oc_show_code, od_show_code, .func (PySem.W.fnOf "show_code" "show_code" (defArgs s_show_code) (defBody s_show_code) (defScope s_show_code) .none kV_show_code dc_show_code pm_show_code an_show_code cd_show_code ct_show_code), sl_show_code⟩) (cc_show_code : PySem.W.codeIn K cd_show_code "show_code" = true) (kk_show_code : PySem.W.keepIn K (.ref f_show_code) = true)
    (a_show_place : PySem.W.nsIn K mainGlobals "_show_place" = some (some (.ref f_show_place))) (l_show_place : K.lookup f_show_place = some ⟨oc_show_place, od_show_place, .func (PySem.W.fnOf "_show_place" "_show_place" (defArgs s_show_place) (defBody s_show_place) (defScope s_show_place) .none kV_show_place dc_show_place pm_show_place an_show_place cd_show_place ct_show_place), sl_show_place⟩) (cc_show_place : PySem.W.codeIn K cd_show_place "_show_place" = true) (kk_show_place : PySem.W.keepIn K (.ref f_show_place) = true)
    (a_show_word : PySem.W.nsIn K mainGlobals "_show_word" = some (some (.ref f_show_word))) (l_show_word : K.lookup f_show_word = some ⟨oc_show_word, od_show_word, .func (PySem.W.fnOf "_show_word" "_show_word" (defArgs s_show_word) (defBody s_show_word) (defScope s_show_word) .none kV_show_word dc_show_word pm_show_word an_show_word cd_show_word ct_show_word), sl_show_word⟩) (cc_show_word : PySem.W.codeIn K cd_show_word "_show_word" = true) (kk_show_word : PySem.W.keepIn K (.ref f_show_word) = true)
    (a_name_at : PySem.W.nsIn K mainGlobals "name_at" = some (some (.ref f_name_at))) (l_name_at : K.lookup f_name_at = some ⟨oc_name_at, od_name_at, .func (PySem.W.fnOf "name_at" "name_at" (defArgs s_name_at) (defBody s_name_at) (defScope s_name_at) .none kV_name_at dc_name_at pm_name_at an_name_at cd_name_at ct_name_at), sl_name_at⟩) (cc_name_at : PySem.W.codeIn K cd_name_at "name_at" = true) (kk_name_at : PySem.W.keepIn K (.ref f_name_at) = true)
    (a_address_of : PySem.W.nsIn K mainGlobals "address_of" = some (some (.ref f_address_of))) (l_address_of : K.lookup f_address_of = some ⟨oc_address_of, od_address_of, .func (PySem.W.fnOf "address_of" "address_of" (defArgs s_address_of) (defBody s_address_of) (defScope s_address_of) .none kV_address_of dc_address_of pm_address_of an_address_of cd_address_of ct_address_of), sl_address_of⟩) (cc_address_of : PySem.W.codeIn K cd_address_of "address_of" = true) (kk_address_of : PySem.W.keepIn K (.ref f_address_of) = true)
    (a_law_draw : PySem.W.nsIn K mainGlobals "_law_draw" = some (some (.ref f_law_draw))) (l_law_draw : K.lookup f_law_draw = some ⟨oc_law_draw, od_law_draw, .func (PySem.W.fnOf "_law_draw" "_law_draw" (defArgs s_law_draw) (defBody s_law_draw) (defScope s_law_draw) .none kV_law_draw dc_law_draw pm_law_draw an_law_draw cd_law_draw ct_law_draw), sl_law_draw⟩) (cc_law_draw : PySem.W.codeIn K cd_law_draw "_law_draw" = true) (kk_law_draw : PySem.W.keepIn K (.ref f_law_draw) = true)
    (a_law_take : PySem.W.nsIn K mainGlobals "_law_take" = some (some (.ref f_law_take))) (l_law_take : K.lookup f_law_take = some ⟨oc_law_take, od_law_take, .func (PySem.W.fnOf "_law_take" "_law_take" (defArgs s_law_take) (defBody s_law_take) (defScope s_law_take) .none kV_law_take dc_law_take pm_law_take an_law_take cd_law_take ct_law_take), sl_law_take⟩) (cc_law_take : PySem.W.codeIn K cd_law_take "_law_take" = true) (kk_law_take : PySem.W.keepIn K (.ref f_law_take) = true)
    (a_law_ops : PySem.W.nsIn K mainGlobals "_law_ops" = some (some (.ref f_law_ops))) (l_law_ops : K.lookup f_law_ops = some ⟨oc_law_ops, od_law_ops, .func (PySem.W.fnOf "_law_ops" "_law_ops" (defArgs s_law_ops) (defBody s_law_ops) (defScope s_law_ops) .none kV_law_ops dc_law_ops pm_law_ops an_law_ops cd_law_ops ct_law_ops), sl_law_ops⟩) (cc_law_ops : PySem.W.codeIn K cd_law_ops "_law_ops" = true) (kk_law_ops : PySem.W.keepIn K (.ref f_law_ops) = true)
    (a_law_word : PySem.W.nsIn K mainGlobals "_law_word" = some (some (.ref f_law_word))) (l_law_word : K.lookup f_law_word = some ⟨oc_law_word, od_law_word, .func (PySem.W.fnOf "_law_word" "_law_word" (defArgs s_law_word) (defBody s_law_word) (defScope s_law_word) .none kV_law_word dc_law_word pm_law_word an_law_word cd_law_word ct_law_word), sl_law_word⟩) (cc_law_word : PySem.W.codeIn K cd_law_word "_law_word" = true) (kk_law_word : PySem.W.keepIn K (.ref f_law_word) = true)
    (a_law_bytes : PySem.W.nsIn K mainGlobals "_law_bytes" = some (some (.ref f_law_bytes))) (l_law_bytes : K.lookup f_law_bytes = some ⟨oc_law_bytes, od_law_bytes, .func (PySem.W.fnOf "_law_bytes" "_law_bytes" (defArgs s_law_bytes) (defBody s_law_bytes) (defScope s_law_bytes) .none kV_law_bytes dc_law_bytes pm_law_bytes an_law_bytes cd_law_bytes ct_law_bytes), sl_law_bytes⟩) (cc_law_bytes : PySem.W.codeIn K cd_law_bytes "_law_bytes" = true) (kk_law_bytes : PySem.W.keepIn K (.ref f_law_bytes) = true)
    (a_law_label : PySem.W.nsIn K mainGlobals "_law_label" = some (some (.ref f_law_label))) (l_law_label : K.lookup f_law_label = some ⟨oc_law_label, od_law_label, .func (PySem.W.fnOf "_law_label" "_law_label" (defArgs s_law_label) (defBody s_law_label) (defScope s_law_label) .none kV_law_label dc_law_label pm_law_label an_law_label cd_law_label ct_law_label), sl_law_label⟩) (cc_law_label : PySem.W.codeIn K cd_law_label "_law_label" = true) (kk_law_label : PySem.W.keepIn K (.ref f_law_label) = true)
    (a_law_here : PySem.W.nsIn K mainGlobals "_law_here" = some (some (.ref f_law_here))) (l_law_here : K.lookup f_law_here = some ⟨oc_law_here, od_law_here, .func (PySem.W.fnOf "_law_here" "_law_here" (defArgs s_law_here) (defBody s_law_here) (defScope s_law_here) .none kV_law_here dc_law_here pm_law_here an_law_here cd_law_here ct_law_here), sl_law_here⟩) (cc_law_here : PySem.W.codeIn K cd_law_here "_law_here" = true) (kk_law_here : PySem.W.keepIn K (.ref f_law_here) = true)
    (a_law_put_word : PySem.W.nsIn K mainGlobals "_law_put_word" = some (some (.ref f_law_put_word))) (l_law_put_word : K.lookup f_law_put_word = some ⟨oc_law_put_word, od_law_put_word, .func (PySem.W.fnOf "_law_put_word" "_law_put_word" (defArgs s_law_put_word) (defBody s_law_put_word) (defScope s_law_put_word) .none kV_law_put_word dc_law_put_word pm_law_put_word an_law_put_word cd_law_put_word ct_law_put_word), sl_law_put_word⟩) (cc_law_put_word : PySem.W.codeIn K cd_law_put_word "_law_put_word" = true) (kk_law_put_word : PySem.W.keepIn K (.ref f_law_put_word) = true)
    (a_law_some : PySem.W.nsIn K mainGlobals "_law_some" = some (some (.ref f_law_some))) (l_law_some : K.lookup f_law_some = some ⟨oc_law_some, od_law_some, .func (PySem.W.fnOf "_law_some" "_law_some" (defArgs s_law_some) (defBody s_law_some) (defScope s_law_some) .none kV_law_some dc_law_some pm_law_some an_law_some cd_law_some ct_law_some), sl_law_some⟩) (cc_law_some : PySem.W.codeIn K cd_law_some "_law_some" = true) (kk_law_some : PySem.W.keepIn K (.ref f_law_some) = true)
    (a_law_register : PySem.W.nsIn K mainGlobals "_law_register" = some (some (.ref f_law_register))) (l_law_register : K.lookup f_law_register = some ⟨oc_law_register, od_law_register, .func (PySem.W.fnOf "_law_register" "_law_register" (defArgs s_law_register) (defBody s_law_register) (defScope s_law_register) .none kV_law_register dc_law_register pm_law_register an_law_register cd_law_register ct_law_register), sl_law_register⟩) (cc_law_register : PySem.W.codeIn K cd_law_register "_law_register" = true) (kk_law_register : PySem.W.keepIn K (.ref f_law_register) = true)
    (a_law_set : PySem.W.nsIn K mainGlobals "_law_set" = some (some (.ref f_law_set))) (l_law_set : K.lookup f_law_set = some ⟨oc_law_set, od_law_set, .func (PySem.W.fnOf "_law_set" "_law_set" (defArgs s_law_set) (defBody s_law_set) (defScope s_law_set) .none kV_law_set dc_law_set pm_law_set an_law_set cd_law_set ct_law_set), sl_law_set⟩) (cc_law_set : PySem.W.codeIn K cd_law_set "_law_set" = true) (kk_law_set : PySem.W.keepIn K (.ref f_law_set) = true)
    (a_law_alu : PySem.W.nsIn K mainGlobals "_law_alu" = some (some (.ref f_law_alu))) (l_law_alu : K.lookup f_law_alu = some ⟨oc_law_alu, od_law_alu, .func (PySem.W.fnOf "_law_alu" "_law_alu" (defArgs s_law_alu) (defBody s_law_alu) (defScope s_law_alu) .none kV_law_alu dc_law_alu pm_law_alu an_law_alu cd_law_alu ct_law_alu), sl_law_alu⟩) (cc_law_alu : PySem.W.codeIn K cd_law_alu "_law_alu" = true) (kk_law_alu : PySem.W.keepIn K (.ref f_law_alu) = true)
    (a_law_memory : PySem.W.nsIn K mainGlobals "_law_memory" = some (some (.ref f_law_memory))) (l_law_memory : K.lookup f_law_memory = some ⟨oc_law_memory, od_law_memory, .func (PySem.W.fnOf "_law_memory" "_law_memory" (defArgs s_law_memory) (defBody s_law_memory) (defScope s_law_memory) .none kV_law_memory dc_law_memory pm_law_memory an_law_memory cd_law_memory ct_law_memory), sl_law_memory⟩) (cc_law_memory : PySem.W.codeIn K cd_law_memory "_law_memory" = true) (kk_law_memory : PySem.W.keepIn K (.ref f_law_memory) = true)
    (a_law_if : PySem.W.nsIn K mainGlobals "_law_if" = some (some (.ref f_law_if))) (l_law_if : K.lookup f_law_if = some ⟨oc_law_if, od_law_if, .func (PySem.W.fnOf "_law_if" "_law_if" (defArgs s_law_if) (defBody s_law_if) (defScope s_law_if) .none kV_law_if dc_law_if pm_law_if an_law_if cd_law_if ct_law_if), sl_law_if⟩) (cc_law_if : PySem.W.codeIn K cd_law_if "_law_if" = true) (kk_law_if : PySem.W.keepIn K (.ref f_law_if) = true)
    (a_law_loop : PySem.W.nsIn K mainGlobals "_law_loop" = some (some (.ref f_law_loop))) (l_law_loop : K.lookup f_law_loop = some ⟨oc_law_loop, od_law_loop, .func (PySem.W.fnOf "_law_loop" "_law_loop" (defArgs s_law_loop) (defBody s_law_loop) (defScope s_law_loop) .none kV_law_loop dc_law_loop pm_law_loop an_law_loop cd_law_loop ct_law_loop), sl_law_loop⟩) (cc_law_loop : PySem.W.codeIn K cd_law_loop "_law_loop" = true) (kk_law_loop : PySem.W.keepIn K (.ref f_law_loop) = true)
    (a_law_call : PySem.W.nsIn K mainGlobals "_law_call" = some (some (.ref f_law_call))) (l_law_call : K.lookup f_law_call = some ⟨oc_law_call, od_law_call, .func (PySem.W.fnOf "_law_call" "_law_call" (defArgs s_law_call) (defBody s_law_call) (defScope s_law_call) .none kV_law_call dc_law_call pm_law_call an_law_call cd_law_call ct_law_call), sl_law_call⟩) (cc_law_call : PySem.W.codeIn K cd_law_call "_law_call" = true) (kk_law_call : PySem.W.keepIn K (.ref f_law_call) = true)
    (a_law_switch : PySem.W.nsIn K mainGlobals "_law_switch" = some (some (.ref f_law_switch))) (l_law_switch : K.lookup f_law_switch = some ⟨oc_law_switch, od_law_switch, .func (PySem.W.fnOf "_law_switch" "_law_switch" (defArgs s_law_switch) (defBody s_law_switch) (defScope s_law_switch) .none kV_law_switch dc_law_switch pm_law_switch an_law_switch cd_law_switch ct_law_switch), sl_law_switch⟩) (cc_law_switch : PySem.W.codeIn K cd_law_switch "_law_switch" = true) (kk_law_switch : PySem.W.keepIn K (.ref f_law_switch) = true)
    (a_law_rows : PySem.W.nsIn K mainGlobals "_law_rows" = some (some (.ref f_law_rows))) (l_law_rows : K.lookup f_law_rows = some ⟨oc_law_rows, od_law_rows, .func (PySem.W.fnOf "_law_rows" "_law_rows" (defArgs s_law_rows) (defBody s_law_rows) (defScope s_law_rows) .none kV_law_rows dc_law_rows pm_law_rows an_law_rows cd_law_rows ct_law_rows), sl_law_rows⟩) (cc_law_rows : PySem.W.codeIn K cd_law_rows "_law_rows" = true) (kk_law_rows : PySem.W.keepIn K (.ref f_law_rows) = true)
    (a_law_odd : PySem.W.nsIn K mainGlobals "_law_odd" = some (some (.ref f_law_odd))) (l_law_odd : K.lookup f_law_odd = some ⟨oc_law_odd, od_law_odd, .func (PySem.W.fnOf "_law_odd" "_law_odd" (defArgs s_law_odd) (defBody s_law_odd) (defScope s_law_odd) .none kV_law_odd dc_law_odd pm_law_odd an_law_odd cd_law_odd ct_law_odd), sl_law_odd⟩) (cc_law_odd : PySem.W.codeIn K cd_law_odd "_law_odd" = true) (kk_law_odd : PySem.W.keepIn K (.ref f_law_odd) = true)
    (a_law_code_words : PySem.W.nsIn K mainGlobals "_law_code_words" = some (some (.ref f_law_code_words))) (l_law_code_words : K.lookup f_law_code_words = some ⟨oc_law_code_words, od_law_code_words, .func (PySem.W.fnOf "_law_code_words" "_law_code_words" (defArgs s_law_code_words) (defBody s_law_code_words) (defScope s_law_code_words) .none kV_law_code_words dc_law_code_words pm_law_code_words an_law_code_words cd_law_code_words ct_law_code_words), sl_law_code_words⟩) (cc_law_code_words : PySem.W.codeIn K cd_law_code_words "_law_code_words" = true) (kk_law_code_words : PySem.W.keepIn K (.ref f_law_code_words) = true)
    (a_law_values : PySem.W.nsIn K mainGlobals "_law_values" = some (some (.ref f_law_values))) (l_law_values : K.lookup f_law_values = some ⟨oc_law_values, od_law_values, .func (PySem.W.fnOf "_law_values" "_law_values" (defArgs s_law_values) (defBody s_law_values) (defScope s_law_values) .none kV_law_values dc_law_values pm_law_values an_law_values cd_law_values ct_law_values), sl_law_values⟩) (cc_law_values : PySem.W.codeIn K cd_law_values "_law_values" = true) (kk_law_values : PySem.W.keepIn K (.ref f_law_values) = true)
    (a_law_image : PySem.W.nsIn K mainGlobals "_law_image" = some (some (.ref f_law_image))) (l_law_image : K.lookup f_law_image = some ⟨oc_law_image, od_law_image, .func (PySem.W.fnOf "_law_image" "_law_image" (defArgs s_law_image) (defBody s_law_image) (defScope s_law_image) .none kV_law_image dc_law_image pm_law_image an_law_image cd_law_image ct_law_image), sl_law_image⟩) (cc_law_image : PySem.W.codeIn K cd_law_image "_law_image" = true) (kk_law_image : PySem.W.keepIn K (.ref f_law_image) = true)
    (a_law_home : PySem.W.nsIn K mainGlobals "_law_home" = some (some (.ref f_law_home))) (l_law_home : K.lookup f_law_home = some ⟨oc_law_home, od_law_home, .func (PySem.W.fnOf "_law_home" "_law_home" (defArgs s_law_home) (defBody s_law_home) (defScope s_law_home) .none kV_law_home dc_law_home pm_law_home an_law_home cd_law_home ct_law_home), sl_law_home⟩) (cc_law_home : PySem.W.codeIn K cd_law_home "_law_home" = true) (kk_law_home : PySem.W.keepIn K (.ref f_law_home) = true)
    (a_law_read : PySem.W.nsIn K mainGlobals "_law_read" = some (some (.ref f_law_read))) (l_law_read : K.lookup f_law_read = some ⟨oc_law_read, od_law_read, .func (PySem.W.fnOf "_law_read" "_law_read" (defArgs s_law_read) (defBody s_law_read) (defScope s_law_read) .none kV_law_read dc_law_read pm_law_read an_law_read cd_law_read ct_law_read), sl_law_read⟩) (cc_law_read : PySem.W.codeIn K cd_law_read "_law_read" = true) (kk_law_read : PySem.W.keepIn K (.ref f_law_read) = true)
    (a_law_fetch : PySem.W.nsIn K mainGlobals "_law_fetch" = some (some (.ref f_law_fetch))) (l_law_fetch : K.lookup f_law_fetch = some ⟨oc_law_fetch, od_law_fetch, .func (PySem.W.fnOf "_law_fetch" "_law_fetch" (defArgs s_law_fetch) (defBody s_law_fetch) (defScope s_law_fetch) .none kV_law_fetch dc_law_fetch pm_law_fetch an_law_fetch cd_law_fetch ct_law_fetch), sl_law_fetch⟩) (cc_law_fetch : PySem.W.codeIn K cd_law_fetch "_law_fetch" = true) (kk_law_fetch : PySem.W.keepIn K (.ref f_law_fetch) = true)
    (a_law_hexadecimal : PySem.W.nsIn K mainGlobals "_law_hexadecimal" = some (some (.ref f_law_hexadecimal))) (l_law_hexadecimal : K.lookup f_law_hexadecimal = some ⟨oc_law_hexadecimal, od_law_hexadecimal, .func (PySem.W.fnOf "_law_hexadecimal" "_law_hexadecimal" (defArgs s_law_hexadecimal) (defBody s_law_hexadecimal) (defScope s_law_hexadecimal) .none kV_law_hexadecimal dc_law_hexadecimal pm_law_hexadecimal an_law_hexadecimal cd_law_hexadecimal ct_law_hexadecimal), sl_law_hexadecimal⟩) (cc_law_hexadecimal : PySem.W.codeIn K cd_law_hexadecimal "_law_hexadecimal" = true) (kk_law_hexadecimal : PySem.W.keepIn K (.ref f_law_hexadecimal) = true)
    (a_law_text : PySem.W.nsIn K mainGlobals "_law_text" = some (some (.ref f_law_text))) (l_law_text : K.lookup f_law_text = some ⟨oc_law_text, od_law_text, .func (PySem.W.fnOf "_law_text" "_law_text" (defArgs s_law_text) (defBody s_law_text) (defScope s_law_text) .none kV_law_text dc_law_text pm_law_text an_law_text cd_law_text ct_law_text), sl_law_text⟩) (cc_law_text : PySem.W.codeIn K cd_law_text "_law_text" = true) (kk_law_text : PySem.W.keepIn K (.ref f_law_text) = true)
    (a_law_line : PySem.W.nsIn K mainGlobals "_law_line" = some (some (.ref f_law_line))) (l_law_line : K.lookup f_law_line = some ⟨oc_law_line, od_law_line, .func (PySem.W.fnOf "_law_line" "_law_line" (defArgs s_law_line) (defBody s_law_line) (defScope s_law_line) .none kV_law_line dc_law_line pm_law_line an_law_line cd_law_line ct_law_line), sl_law_line⟩) (cc_law_line : PySem.W.codeIn K cd_law_line "_law_line" = true) (kk_law_line : PySem.W.keepIn K (.ref f_law_line) = true)
    (a_law : PySem.W.nsIn K mainGlobals "law" = some (some (.ref f_law))) (l_law : K.lookup f_law = some ⟨oc_law, od_law, .func (PySem.W.fnOf "law" "law" (defArgs s_law) (defBody s_law) (defScope s_law) .none kV_law dc_law pm_law an_law cd_law ct_law), sl_law⟩) (cc_law : PySem.W.codeIn K cd_law "law" = true) (kk_law : PySem.W.keepIn K (.ref f_law) = true)
    (a_MASK : PySem.W.nsIn K mainGlobals "MASK" = some (some (.int 4294967295 tk_MASK)))
    (a_LOW_14 : PySem.W.nsIn K mainGlobals "LOW_14" = some (some (.int 16383 tk_LOW_14)))
    (a_LOW_18 : PySem.W.nsIn K mainGlobals "LOW_18" = some (some (.int 262143 tk_LOW_18)))
    (z_abs : PySem.W.nsIn K mainGlobals "abs" = some none)
    (z_enumerate : PySem.W.nsIn K mainGlobals "enumerate" = some none)
    (z_int : PySem.W.nsIn K mainGlobals "int" = some none)
    (z_isinstance : PySem.W.nsIn K mainGlobals "isinstance" = some none)
    (z_len : PySem.W.nsIn K mainGlobals "len" = some none)
    (z_min : PySem.W.nsIn K mainGlobals "min" = some none)
    (z_range : PySem.W.nsIn K mainGlobals "range" = some none)
    (z_sorted : PySem.W.nsIn K mainGlobals "sorted" = some none)
    (z_str : PySem.W.nsIn K mainGlobals "str" = some none)
    (z_tuple : PySem.W.nsIn K mainGlobals "tuple" = some none)
    (z_zip : PySem.W.nsIn K mainGlobals "zip" = some none)
    {OO : Addr} {itO : Array Value} {nO : Nat} {slO : Array (Option Value)} (aOO : PySem.W.nsIn K mainGlobals "OPS" = some (some (.ref OO))) (lOO : K.lookup OO = some ⟨.type "tuple", none, .seq itO nO, slO⟩) (zOO : itO.size ≤ sizeLine) (vOO : Vals ((opsT.map (·.1)).map V.str) itO.toList) {FF : Addr} {esF : Array DictEntry} {nF : Nat} (aFF : PySem.W.nsIn K mainGlobals "FORMS" = some (some (.ref FF))) (lFF : K.lookup FF = some ⟨.type "dict", none, .dict esF nF, #[]⟩) (kFF : PySem.W.KeysLit w.params esF.toList) {t_add t_sub t_mul t_and t_or t_xor t_shl t_shr t_sar t_slt t_sltu t_divu t_remu t_addi t_andi t_ori t_xori t_shli t_shri t_sari t_slti t_lui t_lw t_lb t_lbu t_sw t_sb t_beq t_bne t_blt t_bge t_bltu t_bgeu t_jal t_jalr t_get t_put t_exit : Tok} (o_add : PySem.W.nsIn K FF "add" = some (some (.str "dss" t_add))) (o_sub : PySem.W.nsIn K FF "sub" = some (some (.str "dss" t_sub))) (o_mul : PySem.W.nsIn K FF "mul" = some (some (.str "dss" t_mul))) (o_and : PySem.W.nsIn K FF "and" = some (some (.str "dss" t_and))) (o_or : PySem.W.nsIn K FF "or" = some (some (.str "dss" t_or))) (o_xor : PySem.W.nsIn K FF "xor" = some (some (.str "dss" t_xor))) (o_shl : PySem.W.nsIn K FF "shl" = some (some (.str "dss" t_shl))) (o_shr : PySem.W.nsIn K FF "shr" = some (some (.str "dss" t_shr))) (o_sar : PySem.W.nsIn K FF "sar" = some (some (.str "dss" t_sar))) (o_slt : PySem.W.nsIn K FF "slt" = some (some (.str "dss" t_slt))) (o_sltu : PySem.W.nsIn K FF "sltu" = some (some (.str "dss" t_sltu))) (o_divu : PySem.W.nsIn K FF "divu" = some (some (.str "dss" t_divu))) (o_remu : PySem.W.nsIn K FF "remu" = some (some (.str "dss" t_remu))) (o_addi : PySem.W.nsIn K FF "addi" = some (some (.str "dsi" t_addi))) (o_andi : PySem.W.nsIn K FF "andi" = some (some (.str "dsi" t_andi))) (o_ori : PySem.W.nsIn K FF "ori" = some (some (.str "dsi" t_ori))) (o_xori : PySem.W.nsIn K FF "xori" = some (some (.str "dsi" t_xori))) (o_shli : PySem.W.nsIn K FF "shli" = some (some (.str "dsi" t_shli))) (o_shri : PySem.W.nsIn K FF "shri" = some (some (.str "dsi" t_shri))) (o_sari : PySem.W.nsIn K FF "sari" = some (some (.str "dsi" t_sari))) (o_slti : PySem.W.nsIn K FF "slti" = some (some (.str "dsi" t_slti))) (o_lui : PySem.W.nsIn K FF "lui" = some (some (.str "du" t_lui))) (o_lw : PySem.W.nsIn K FF "lw" = some (some (.str "dsi" t_lw))) (o_lb : PySem.W.nsIn K FF "lb" = some (some (.str "dsi" t_lb))) (o_lbu : PySem.W.nsIn K FF "lbu" = some (some (.str "dsi" t_lbu))) (o_sw : PySem.W.nsIn K FF "sw" = some (some (.str "ssi" t_sw))) (o_sb : PySem.W.nsIn K FF "sb" = some (some (.str "ssi" t_sb))) (o_beq : PySem.W.nsIn K FF "beq" = some (some (.str "ssi" t_beq))) (o_bne : PySem.W.nsIn K FF "bne" = some (some (.str "ssi" t_bne))) (o_blt : PySem.W.nsIn K FF "blt" = some (some (.str "ssi" t_blt))) (o_bge : PySem.W.nsIn K FF "bge" = some (some (.str "ssi" t_bge))) (o_bltu : PySem.W.nsIn K FF "bltu" = some (some (.str "ssi" t_bltu))) (o_bgeu : PySem.W.nsIn K FF "bgeu" = some (some (.str "ssi" t_bgeu))) (o_jal : PySem.W.nsIn K FF "jal" = some (some (.str "dj" t_jal))) (o_jalr : PySem.W.nsIn K FF "jalr" = some (some (.str "dsi" t_jalr))) (o_get : PySem.W.nsIn K FF "get" = some (some (.str "d" t_get))) (o_put : PySem.W.nsIn K FF "put" = some (some (.str "s" t_put))) (o_exit : PySem.W.nsIn K FF "exit" = some (some (.str "s" t_exit))) : 
    ∃ fd : FuncData, (∀ (s : Shared) (v : Value), BindsTo s fd ⟨[v], []⟩ [("script", v)]) ∧ ∀ base : Heap, K.In base → base.Ns mainGlobals mg → RunG l.prog w K mg base fa fd "script" (spLaw K) := by
  have e := hfa.symm.trans (PySem.W.mg_of X G a_law)
  cases e
  have Z_encode : St1 K mg "encode" s_encode ["instruction"] := mkSt1 X G a_encode l_encode cc_encode kk_encode (fun _ _ _ _ _ _ us hl => match us, hl with | [_], _ => rfl)
  have Z_decode : St1 K mg "decode" s_decode ["word"] := mkSt1 X G a_decode l_decode cc_decode kk_decode (fun _ _ _ _ _ _ us hl => match us, hl with | [_], _ => rfl)
  have Z_immediate : St1 K mg "_immediate" s_immediate ["kind", "word"] := mkSt1 X G a_immediate l_immediate cc_immediate kk_immediate (fun _ _ _ _ _ _ us hl => match us, hl with | [_, _], _ => rfl)
  have Z_with_sign : St1 K mg "_with_sign" s_with_sign ["bits", "half"] := mkSt1 X G a_with_sign l_with_sign cc_with_sign kk_with_sign (fun _ _ _ _ _ _ us hl => match us, hl with | [_, _], _ => rfl)
  have Z_find_segment : St1 K mg "find_segment" s_find_segment ["image", "address", "count"] := mkSt1 X G a_find_segment l_find_segment cc_find_segment kk_find_segment (fun _ _ _ _ _ _ us hl => match us, hl with | [_, _, _], _ => rfl)
  have Z_can_load : St1 K mg "can_load" s_can_load ["image", "address", "count"] := mkSt1 X G a_can_load l_can_load cc_can_load kk_can_load (fun _ _ _ _ _ _ us hl => match us, hl with | [_, _, _], _ => rfl)
  have Z_can_fetch : St1 K mg "can_fetch" s_can_fetch ["image", "address"] := mkSt1 X G a_can_fetch l_can_fetch cc_can_fetch kk_can_fetch (fun _ _ _ _ _ _ us hl => match us, hl with | [_, _], _ => rfl)
  have Z_load_word : St1 K mg "load_word" s_load_word ["image", "memory", "address", "count"] := mkSt1 X G a_load_word l_load_word cc_load_word kk_load_word (fun _ _ _ _ _ _ us hl => match us, hl with | [_, _, _, _], _ => rfl)
  have Z_first_memory : St1 K mg "first_memory" s_first_memory ["image"] := mkSt1 X G a_first_memory l_first_memory cc_first_memory kk_first_memory (fun _ _ _ _ _ _ us hl => match us, hl with | [_], _ => rfl)
  have Z_word_at : St1 K mg "word_at" s_word_at ["image", "address"] := mkSt1 X G a_word_at l_word_at cc_word_at kk_word_at (fun _ _ _ _ _ _ us hl => match us, hl with | [_, _], _ => rfl)
  have Z_show_instruction : St1 K mg "show_instruction" s_show_instruction ["instruction"] := mkSt1 X G a_show_instruction l_show_instruction cc_show_instruction kk_show_instruction (fun _ _ _ _ _ _ us hl => match us, hl with | [_], _ => rfl)
  have Z_show_operand : St1 K mg "_show_operand" s_show_operand ["kind", "operand"] := mkSt1 X G a_show_operand l_show_operand cc_show_operand kk_show_operand (fun _ _ _ _ _ _ us hl => match us, hl with | [_, _], _ => rfl)
  have Z_show_code : St1 K mg "show_code" s_show_code ["image", "address", "count"] := mkSt1 X G a_show_code l_show_code cc_show_code kk_show_code (fun _ _ _ _ _ _ us hl => match us, hl with | [_, _, _], _ => rfl)
  have Z_show_place : St1 K mg "_show_place" s_show_place ["image", "address"] := mkSt1 X G a_show_place l_show_place cc_show_place kk_show_place (fun _ _ _ _ _ _ us hl => match us, hl with | [_, _], _ => rfl)
  have Z_show_word : St1 K mg "_show_word" s_show_word ["image", "address"] := mkSt1 X G a_show_word l_show_word cc_show_word kk_show_word (fun _ _ _ _ _ _ us hl => match us, hl with | [_, _], _ => rfl)
  have Z_name_at : St1 K mg "name_at" s_name_at ["image", "address"] := mkSt1 X G a_name_at l_name_at cc_name_at kk_name_at (fun _ _ _ _ _ _ us hl => match us, hl with | [_, _], _ => rfl)
  have Z_address_of : St1 K mg "address_of" s_address_of ["image", "name"] := mkSt1 X G a_address_of l_address_of cc_address_of kk_address_of (fun _ _ _ _ _ _ us hl => match us, hl with | [_, _], _ => rfl)
  have Z_law_draw : St1 K mg "_law_draw" s_law_draw ["script"] := mkSt1 X G a_law_draw l_law_draw cc_law_draw kk_law_draw (fun _ _ _ _ _ _ us hl => match us, hl with | [_], _ => rfl)
  have Z_law_take : St1 K mg "_law_take" s_law_take ["draw", "many"] := mkSt1 X G a_law_take l_law_take cc_law_take kk_law_take (fun _ _ _ _ _ _ us hl => match us, hl with | [_, _], _ => rfl)
  have Z_law_ops : St1 K mg "_law_ops" s_law_ops [] := mkSt1 X G a_law_ops l_law_ops cc_law_ops kk_law_ops (fun _ _ _ _ _ _ us hl => match us, hl with | [], _ => rfl)
  have Z_law_word : St1 K mg "_law_word" s_law_word ["row"] := mkSt1 X G a_law_word l_law_word cc_law_word kk_law_word (fun _ _ _ _ _ _ us hl => match us, hl with | [_], _ => rfl)
  have Z_law_bytes : St1 K mg "_law_bytes" s_law_bytes ["word"] := mkSt1 X G a_law_bytes l_law_bytes cc_law_bytes kk_law_bytes (fun _ _ _ _ _ _ us hl => match us, hl with | [_], _ => rfl)
  have Z_law_label : St1 K mg "_law_label" s_law_label ["p"] := mkSt1 X G a_law_label l_law_label cc_law_label kk_law_label (fun _ _ _ _ _ _ us hl => match us, hl with | [_], _ => rfl)
  have Z_law_here : St1 K mg "_law_here" s_law_here ["p", "label"] := mkSt1 X G a_law_here l_law_here cc_law_here kk_law_here (fun _ _ _ _ _ _ us hl => match us, hl with | [_, _], _ => rfl)
  have Z_law_put_word : St1 K mg "_law_put_word" s_law_put_word ["p", "row"] := mkSt1 X G a_law_put_word l_law_put_word cc_law_put_word kk_law_put_word (fun _ _ _ _ _ _ us hl => match us, hl with | [_, _], _ => rfl)
  have Z_law_some : St1 K mg "_law_some" s_law_some ["p", "many"] := mkSt1 X G a_law_some l_law_some cc_law_some kk_law_some (fun _ _ _ _ _ _ us hl => match us, hl with | [_, _], _ => rfl)
  have Z_law_register : St1 K mg "_law_register" s_law_register ["p"] := mkSt1 X G a_law_register l_law_register cc_law_register kk_law_register (fun _ _ _ _ _ _ us hl => match us, hl with | [_], _ => rfl)
  have Z_law_set : St1 K mg "_law_set" s_law_set ["p", "number", "value"] := mkSt1 X G a_law_set l_law_set cc_law_set kk_law_set (fun _ _ _ _ _ _ us hl => match us, hl with | [_, _, _], _ => rfl)
  have Z_law_alu : St1 K mg "_law_alu" s_law_alu ["p"] := mkSt1 X G a_law_alu l_law_alu cc_law_alu kk_law_alu (fun _ _ _ _ _ _ us hl => match us, hl with | [_], _ => rfl)
  have Z_law_memory : St1 K mg "_law_memory" s_law_memory ["p"] := mkSt1 X G a_law_memory l_law_memory cc_law_memory kk_law_memory (fun _ _ _ _ _ _ us hl => match us, hl with | [_], _ => rfl)
  have Z_law_if : St1 K mg "_law_if" s_law_if ["p", "depth"] := mkSt1 X G a_law_if l_law_if cc_law_if kk_law_if (fun _ _ _ _ _ _ us hl => match us, hl with | [_, _], _ => rfl)
  have Z_law_loop : St1 K mg "_law_loop" s_law_loop ["p", "depth"] := mkSt1 X G a_law_loop l_law_loop cc_law_loop kk_law_loop (fun _ _ _ _ _ _ us hl => match us, hl with | [_, _], _ => rfl)
  have Z_law_call : St1 K mg "_law_call" s_law_call ["p"] := mkSt1 X G a_law_call l_law_call cc_law_call kk_law_call (fun _ _ _ _ _ _ us hl => match us, hl with | [_], _ => rfl)
  have Z_law_switch : St1 K mg "_law_switch" s_law_switch ["p", "depth"] := mkSt1 X G a_law_switch l_law_switch cc_law_switch kk_law_switch (fun _ _ _ _ _ _ us hl => match us, hl with | [_, _], _ => rfl)
  have Z_law_rows : St1 K mg "_law_rows" s_law_rows ["p", "depth"] := mkSt1 X G a_law_rows l_law_rows cc_law_rows kk_law_rows (fun _ _ _ _ _ _ us hl => match us, hl with | [_, _], _ => rfl)
  have Z_law_odd : St1 K mg "_law_odd" s_law_odd ["p"] := mkSt1 X G a_law_odd l_law_odd cc_law_odd kk_law_odd (fun _ _ _ _ _ _ us hl => match us, hl with | [_], _ => rfl)
  have Z_law_code_words : St1 K mg "_law_code_words" s_law_code_words ["p"] := mkSt1 X G a_law_code_words l_law_code_words cc_law_code_words kk_law_code_words (fun _ _ _ _ _ _ us hl => match us, hl with | [_], _ => rfl)
  have Z_law_values : St1 K mg "_law_values" s_law_values ["words"] := mkSt1 X G a_law_values l_law_values cc_law_values kk_law_values (fun _ _ _ _ _ _ us hl => match us, hl with | [_], _ => rfl)
  have Z_law_image : St1 K mg "_law_image" s_law_image ["draw", "left"] := mkSt1 X G a_law_image l_law_image cc_law_image kk_law_image (fun _ _ _ _ _ _ us hl => match us, hl with | [_, _], _ => rfl)
  have Z_law_home : St1 K mg "_law_home" s_law_home ["image", "address", "count"] := mkSt1 X G a_law_home l_law_home cc_law_home kk_law_home (fun _ _ _ _ _ _ us hl => match us, hl with | [_, _, _], _ => rfl)
  have Z_law_read : St1 K mg "_law_read" s_law_read ["word"] := mkSt1 X G a_law_read l_law_read cc_law_read kk_law_read (fun _ _ _ _ _ _ us hl => match us, hl with | [_], _ => rfl)
  have Z_law_fetch : St1 K mg "_law_fetch" s_law_fetch ["image", "pc"] := mkSt1 X G a_law_fetch l_law_fetch cc_law_fetch kk_law_fetch (fun _ _ _ _ _ _ us hl => match us, hl with | [_, _], _ => rfl)
  have Z_law_hexadecimal : St1 K mg "_law_hexadecimal" s_law_hexadecimal ["value"] := mkSt1 X G a_law_hexadecimal l_law_hexadecimal cc_law_hexadecimal kk_law_hexadecimal (fun _ _ _ _ _ _ us hl => match us, hl with | [_], _ => rfl)
  have Z_law_text : St1 K mg "_law_text" s_law_text ["row"] := mkSt1 X G a_law_text l_law_text cc_law_text kk_law_text (fun _ _ _ _ _ _ us hl => match us, hl with | [_], _ => rfl)
  have Z_law_line : St1 K mg "_law_line" s_law_line ["image", "at"] := mkSt1 X G a_law_line l_law_line cc_law_line kk_law_line (fun _ _ _ _ _ _ us hl => match us, hl with | [_, _], _ => rfl)
  have Z_law : St1 K mg "law" s_law ["script"] := mkSt1 X G a_law l_law cc_law kk_law (fun _ _ _ _ _ _ us hl => match us, hl with | [_], _ => rfl)
  have g_MASK : GV mg "MASK" (.int 4294967295) := ⟨_, PySem.W.mg_of X G a_MASK, ⟨_, rfl⟩⟩
  have g_LOW_14 : GV mg "LOW_14" (.int 16383) := ⟨_, PySem.W.mg_of X G a_LOW_14, ⟨_, rfl⟩⟩
  have g_LOW_18 : GV mg "LOW_18" (.int 262143) := ⟨_, PySem.W.mg_of X G a_LOW_18, ⟨_, rfl⟩⟩
  have b_abs : mg "abs" = none := PySem.W.mg_none_of X G z_abs
  have b_enumerate : mg "enumerate" = none := PySem.W.mg_none_of X G z_enumerate
  have b_int : mg "int" = none := PySem.W.mg_none_of X G z_int
  have b_isinstance : mg "isinstance" = none := PySem.W.mg_none_of X G z_isinstance
  have b_len : mg "len" = none := PySem.W.mg_none_of X G z_len
  have b_min : mg "min" = none := PySem.W.mg_none_of X G z_min
  have b_range : mg "range" = none := PySem.W.mg_none_of X G z_range
  have b_sorted : mg "sorted" = none := PySem.W.mg_none_of X G z_sorted
  have b_str : mg "str" = none := PySem.W.mg_none_of X G z_str
  have b_tuple : mg "tuple" = none := PySem.W.mg_none_of X G z_tuple
  have b_zip : mg "zip" = none := PySem.W.mg_none_of X G z_zip
  have F_law := fun_mk (st := s_law) l_law cc_law kk_law
  refine ⟨PySem.W.fnOf "law" "law" (defArgs s_law) (defBody s_law) (defScope s_law) .none kV_law dc_law pm_law an_law cd_law ct_law, fun s v => .of_eq rfl, fun base _ _ => ?_⟩
  have T : Env0 K w mg OO FF := ⟨⟨_, PySem.W.mg_of X G aOO, rfl⟩, ⟨_, PySem.W.mg_of X G aFF, rfl⟩, g_LOW_14, g_LOW_18, ⟨itO, nO, slO, lOO, zOO, vOO⟩, by
    intro p hp
    simp only [opsT, List.mem_cons, List.not_mem_nil, or_false] at hp
    rcases hp with rfl | rfl | rfl | rfl | rfl | rfl | rfl | rfl | rfl | rfl | rfl | rfl | rfl | rfl | rfl | rfl | rfl | rfl | rfl | rfl | rfl | rfl | rfl | rfl | rfl | rfl | rfl | rfl | rfl | rfl | rfl | rfl | rfl | rfl | rfl | rfl | rfl | rfl
    · exact ⟨esF, nF, _, lFF, kFF, o_add, ⟨_, rfl⟩⟩
    · exact ⟨esF, nF, _, lFF, kFF, o_sub, ⟨_, rfl⟩⟩
    · exact ⟨esF, nF, _, lFF, kFF, o_mul, ⟨_, rfl⟩⟩
    · exact ⟨esF, nF, _, lFF, kFF, o_and, ⟨_, rfl⟩⟩
    · exact ⟨esF, nF, _, lFF, kFF, o_or, ⟨_, rfl⟩⟩
    · exact ⟨esF, nF, _, lFF, kFF, o_xor, ⟨_, rfl⟩⟩
    · exact ⟨esF, nF, _, lFF, kFF, o_shl, ⟨_, rfl⟩⟩
    · exact ⟨esF, nF, _, lFF, kFF, o_shr, ⟨_, rfl⟩⟩
    · exact ⟨esF, nF, _, lFF, kFF, o_sar, ⟨_, rfl⟩⟩
    · exact ⟨esF, nF, _, lFF, kFF, o_slt, ⟨_, rfl⟩⟩
    · exact ⟨esF, nF, _, lFF, kFF, o_sltu, ⟨_, rfl⟩⟩
    · exact ⟨esF, nF, _, lFF, kFF, o_divu, ⟨_, rfl⟩⟩
    · exact ⟨esF, nF, _, lFF, kFF, o_remu, ⟨_, rfl⟩⟩
    · exact ⟨esF, nF, _, lFF, kFF, o_addi, ⟨_, rfl⟩⟩
    · exact ⟨esF, nF, _, lFF, kFF, o_andi, ⟨_, rfl⟩⟩
    · exact ⟨esF, nF, _, lFF, kFF, o_ori, ⟨_, rfl⟩⟩
    · exact ⟨esF, nF, _, lFF, kFF, o_xori, ⟨_, rfl⟩⟩
    · exact ⟨esF, nF, _, lFF, kFF, o_shli, ⟨_, rfl⟩⟩
    · exact ⟨esF, nF, _, lFF, kFF, o_shri, ⟨_, rfl⟩⟩
    · exact ⟨esF, nF, _, lFF, kFF, o_sari, ⟨_, rfl⟩⟩
    · exact ⟨esF, nF, _, lFF, kFF, o_slti, ⟨_, rfl⟩⟩
    · exact ⟨esF, nF, _, lFF, kFF, o_lui, ⟨_, rfl⟩⟩
    · exact ⟨esF, nF, _, lFF, kFF, o_lw, ⟨_, rfl⟩⟩
    · exact ⟨esF, nF, _, lFF, kFF, o_lb, ⟨_, rfl⟩⟩
    · exact ⟨esF, nF, _, lFF, kFF, o_lbu, ⟨_, rfl⟩⟩
    · exact ⟨esF, nF, _, lFF, kFF, o_sw, ⟨_, rfl⟩⟩
    · exact ⟨esF, nF, _, lFF, kFF, o_sb, ⟨_, rfl⟩⟩
    · exact ⟨esF, nF, _, lFF, kFF, o_beq, ⟨_, rfl⟩⟩
    · exact ⟨esF, nF, _, lFF, kFF, o_bne, ⟨_, rfl⟩⟩
    · exact ⟨esF, nF, _, lFF, kFF, o_blt, ⟨_, rfl⟩⟩
    · exact ⟨esF, nF, _, lFF, kFF, o_bge, ⟨_, rfl⟩⟩
    · exact ⟨esF, nF, _, lFF, kFF, o_bltu, ⟨_, rfl⟩⟩
    · exact ⟨esF, nF, _, lFF, kFF, o_bgeu, ⟨_, rfl⟩⟩
    · exact ⟨esF, nF, _, lFF, kFF, o_jal, ⟨_, rfl⟩⟩
    · exact ⟨esF, nF, _, lFF, kFF, o_jalr, ⟨_, rfl⟩⟩
    · exact ⟨esF, nF, _, lFF, kFF, o_get, ⟨_, rfl⟩⟩
    · exact ⟨esF, nF, _, lFF, kFF, o_put, ⟨_, rfl⟩⟩
    · exact ⟨esF, nF, _, lFF, kFF, o_exit, ⟨_, rfl⟩⟩⟩
  have c_law_opsR : Cd l.prog w K mg base 1 "_law_ops" spOps := ok_law_ops Z_law_ops
  have c_law_wordR : Cd l.prog w K mg base 2 "_law_word" (spWordR K) := ok_law_word b_len b_int c_law_opsR Z_law_word
  have c_law_draw : Cd l.prog w K mg base 1 "_law_draw" (spDraw K) := ok_draw b_int b_abs b_len Z_law_draw
  have c_law_take : Cd l.prog w K mg base 1 "_law_take" spTake := ok_take b_int b_abs b_len Z_law_take
  have c_law_put_word : Cd l.prog w K mg base 1 "_law_put_word" spPut := ok_law_put_word Z_law_put_word
  have c_law_set : Cd l.prog w K mg base 2 "_law_set" spSet := ok_law_set c_law_put_word Z_law_set
  have c_law_label : Cd l.prog w K mg base 1 "_law_label" spLabel := ok_law_label b_len Z_law_label
  have c_law_here : Cd l.prog w K mg base 1 "_law_here" spHere := ok_law_here b_len Z_law_here
  have c_law_ops : Cd l.prog w K mg base 1 "_law_ops" spOps := ok_law_ops Z_law_ops
  have c_law_some : Cd l.prog w K mg base 2 "_law_some" spSome := ok_law_some c_law_take Z_law_some
  have c_law_register : Cd l.prog w K mg base 3 "_law_register" spReg := ok_law_register c_law_some Z_law_register
  have c_law_alu : Cd l.prog w K mg base 4 "_law_alu" spOne := ok_law_alu c_law_ops c_law_some c_law_register c_law_put_word Z_law_alu
  have c_law_memory : Cd l.prog w K mg base 4 "_law_memory" spOne := ok_law_memory b_int c_law_some c_law_register c_law_put_word Z_law_memory
  have c_law_odd : Cd l.prog w K mg base 4 "_law_odd" spOne := ok_law_odd c_law_some c_law_register c_law_put_word Z_law_odd
  have c_law_call : Cd l.prog w K mg base 5 "_law_call" spCall := ok_law_call b_len c_law_some c_law_alu c_law_put_word Z_law_call
  have c_law_rows : Cd l.prog w K mg base 10 "_law_rows" (spRows 2) := ok_law_rows2 b_range b_len Z_law_if Z_law_loop Z_law_switch Z_law_rows c_law_alu c_law_memory c_law_odd c_law_call c_law_some c_law_register c_law_put_word c_law_label c_law_here
  have c_law_word : Cd l.prog w K mg base 2 "_law_word" (spWordS K) := ok_law_wordS b_len b_int c_law_ops Z_law_word
  have c_law_code_words : Cd l.prog w K mg base 3 "_law_code_words" spCW := ok_law_code_words b_len b_range b_isinstance b_tuple c_law_wordR Z_law_code_words
  have c_law_bytes : Cd l.prog w K mg base 1 "_law_bytes" spBytes := ok_law_bytes b_int Z_law_bytes
  have c_law_values : Cd l.prog w K mg base 2 "_law_values" spValues := ok_law_values b_tuple c_law_bytes Z_law_values
  have c_law_image : Cd l.prog w K mg base 11 "_law_image" spImage := ok_law_image b_len b_range b_min b_tuple c_law_take c_law_set c_law_label c_law_here c_law_rows c_law_put_word c_law_code_words c_law_values Z_law_image
  have c_law_home : Cd l.prog w K mg base 1 "_law_home" spHomeL := ok_law_home b_len b_range Z_law_home
  have c_law_fetch : Cd l.prog w K mg base 2 "_law_fetch" spFetch := ok_law_fetch b_int c_law_home Z_law_fetch
  have c_law_read : Cd l.prog w K mg base 3 "_law_read" spDec := ok_law_read b_int c_law_ops c_law_word Z_law_read
  have c_law_hexadecimal : Cd l.prog w K mg base 1 "_law_hexadecimal" spHexL := ok_law_hexadecimal b_int b_range Z_law_hexadecimal
  have c_law_text : Cd l.prog w K mg base 2 "_law_text" (spShow K) := ok_law_text b_len b_range b_str c_law_ops Z_law_text
  have c_law_line : Cd l.prog w K mg base 4 "_law_line" (spLineP K) := ok_law_line c_law_fetch c_law_read c_law_hexadecimal c_law_text Z_law_line
  have c_find_segment : Cd l.prog w K mg base 1 "find_segment" spFind := ok_find_segment b_len b_enumerate Z_find_segment
  have c_can_load : Cd l.prog w K mg base 2 "can_load" spCanL := ok_can_load c_find_segment Z_can_load
  have c_can_fetch : Cd l.prog w K mg base 3 "can_fetch" (spRight4 Sg.ex) := ok_can_fetch c_find_segment c_can_load Z_can_fetch
  have c_first_memory : Cd l.prog w K mg base 1 "first_memory" spFirst := ok_first_memory b_tuple Z_first_memory
  have c_load_word : Cd l.prog w K mg base 2 "load_word" spLoad := ok_load_word b_range c_find_segment Z_load_word
  have c_word_at : Cd l.prog w K mg base 3 "word_at" spWordAt := ok_word_at c_first_memory c_load_word Z_word_at
  have c_encode : Cd l.prog w K mg base 1 "encode" (spEnc K) := ok_encode T b_zip Z_encode
  have c_with_sign : Cd l.prog w K mg base 1 "_with_sign" (spI2 (fun _ h => 0 ≤ h ∧ h < 1000000) fun b h => .int (sg b h)) := ok_with_sign Z_with_sign
  have c_immediate : Cd l.prog w K mg base 2 "_immediate" spImm := ok_immediate T c_with_sign Z_immediate
  have c_decode : Cd l.prog w K mg base 3 "decode" spDec := ok_decode T b_len c_encode c_immediate Z_decode
  have c_show_operand : Cd l.prog w K mg base 1 "_show_operand" spOpd := ok_show_operand b_str Z_show_operand
  have c_show_instruction : Cd l.prog w K mg base 2 "show_instruction" (spShow K) := ok_show_instruction T b_zip c_show_operand Z_show_instruction
  have c_show_word : Cd l.prog w K mg base 4 "_show_word" (spWordP K) := ok_show_word c_can_fetch c_word_at c_decode c_show_instruction Z_show_word
  have c_show_place : Cd l.prog w K mg base 5 "_show_place" (spLineP K) := ok_show_place c_show_word Z_show_place
  have c_show_code : Cd l.prog w K mg base 6 "show_code" (spCode K) := ok_show_code g_MASK b_range c_show_place Z_show_code
  have c_name_at : Cd l.prog w K mg base 1 "name_at" spName := ok_name_at Z_name_at
  have c_address_of : Cd l.prog w K mg base 1 "address_of" spAdOf := ok_address_of Z_address_of
  exact ok_law b_int b_len b_range b_tuple b_str b_sorted b_min c_law_draw c_law_take c_law_image c_law_line c_show_code c_name_at c_address_of F_law
end K06
open PySem PySem.W PyProof.Rows
set_option maxRecDepth 100000 in
set_option maxHeartbeats 0 in
theorem PySem.Challenge.cw_restitch_k06_listings_and_names_holds : PySem.Challenge.rw_restitch_k06_listings_and_names.Holds := by
  w_on; o_law; k_head; (case hw => w_witness2)
  k_fill
  refine Co.walk_ofG (l := PySem.Challenge.rw_restitch_k06_listings_and_names) (n := 63) (x := "script") (sp := fun w => K06.spLaw _) rfl (by decide) rfl (fun w h Y => PySem.W.kIn_of Y) ?F (fun _ _ a ns hl _ hS => ⟨a, ns, rfl, hS, hl, fun _ => rfl⟩)
  case F =>
    intro w mg fa h KX G hmg
    refine' K06.all_mk KX G hmg ?a_encode ?l_encode ?cc_encode ?kk_encode ?a_decode ?l_decode ?cc_decode ?kk_decode ?a_immediate ?l_immediate ?cc_immediate ?kk_immediate ?a_with_sign ?l_with_sign ?cc_with_sign ?kk_with_sign ?a_find_segment ?l_find_segment ?cc_find_segment ?kk_find_segment ?a_can_load ?l_can_load ?cc_can_load ?kk_can_load ?a_can_fetch ?l_can_fetch ?cc_can_fetch ?kk_can_fetch ?a_load_word ?l_load_word ?cc_load_word ?kk_load_word ?a_first_memory ?l_first_memory ?cc_first_memory ?kk_first_memory ?a_word_at ?l_word_at ?cc_word_at ?kk_word_at ?a_show_instruction ?l_show_instruction ?cc_show_instruction ?kk_show_instruction ?a_show_operand ?l_show_operand ?cc_show_operand ?kk_show_operand ?a_show_code ?l_show_code ?cc_show_code ?kk_show_code ?a_show_place ?l_show_place ?cc_show_place ?kk_show_place ?a_show_word ?l_show_word ?cc_show_word ?kk_show_word ?a_name_at ?l_name_at ?cc_name_at ?kk_name_at ?a_address_of ?l_address_of ?cc_address_of ?kk_address_of ?a_law_draw ?l_law_draw ?cc_law_draw ?kk_law_draw ?a_law_take ?l_law_take ?cc_law_take ?kk_law_take ?a_law_ops ?l_law_ops ?cc_law_ops ?kk_law_ops ?a_law_word ?l_law_word ?cc_law_word ?kk_law_word ?a_law_bytes ?l_law_bytes ?cc_law_bytes ?kk_law_bytes ?a_law_label ?l_law_label ?cc_law_label ?kk_law_label ?a_law_here ?l_law_here ?cc_law_here ?kk_law_here ?a_law_put_word ?l_law_put_word ?cc_law_put_word ?kk_law_put_word ?a_law_some ?l_law_some ?cc_law_some ?kk_law_some ?a_law_register ?l_law_register ?cc_law_register ?kk_law_register ?a_law_set ?l_law_set ?cc_law_set ?kk_law_set ?a_law_alu ?l_law_alu ?cc_law_alu ?kk_law_alu ?a_law_memory ?l_law_memory ?cc_law_memory ?kk_law_memory ?a_law_if ?l_law_if ?cc_law_if ?kk_law_if ?a_law_loop ?l_law_loop ?cc_law_loop ?kk_law_loop ?a_law_call ?l_law_call ?cc_law_call ?kk_law_call ?a_law_switch ?l_law_switch ?cc_law_switch ?kk_law_switch ?a_law_rows ?l_law_rows ?cc_law_rows ?kk_law_rows ?a_law_odd ?l_law_odd ?cc_law_odd ?kk_law_odd ?a_law_code_words ?l_law_code_words ?cc_law_code_words ?kk_law_code_words ?a_law_values ?l_law_values ?cc_law_values ?kk_law_values ?a_law_image ?l_law_image ?cc_law_image ?kk_law_image ?a_law_home ?l_law_home ?cc_law_home ?kk_law_home ?a_law_read ?l_law_read ?cc_law_read ?kk_law_read ?a_law_fetch ?l_law_fetch ?cc_law_fetch ?kk_law_fetch ?a_law_hexadecimal ?l_law_hexadecimal ?cc_law_hexadecimal ?kk_law_hexadecimal ?a_law_text ?l_law_text ?cc_law_text ?kk_law_text ?a_law_line ?l_law_line ?cc_law_line ?kk_law_line ?a_law ?l_law ?cc_law ?kk_law ?a_MASK ?a_LOW_14 ?a_LOW_18 ?z_abs ?z_enumerate ?z_int ?z_isinstance ?z_len ?z_min ?z_range ?z_sorted ?z_str ?z_tuple ?z_zip ?aOO ?lOO ?zOO ?vOO ?aFF ?lFF ?kFF ?o_add ?o_sub ?o_mul ?o_and ?o_or ?o_xor ?o_shl ?o_shr ?o_sar ?o_slt ?o_sltu ?o_divu ?o_remu ?o_addi ?o_andi ?o_ori ?o_xori ?o_shli ?o_shri ?o_sari ?o_slti ?o_lui ?o_lw ?o_lb ?o_lbu ?o_sw ?o_sb ?o_beq ?o_bne ?o_blt ?o_bge ?o_bltu ?o_bgeu ?o_jal ?o_jalr ?o_get ?o_put ?o_exit
    (case a_encode => k_is)
    (case l_encode => k_is)
    (case cc_encode => k_is)
    (case kk_encode => k_is)
    (case a_decode => k_is)
    (case l_decode => k_is)
    (case cc_decode => k_is)
    (case kk_decode => k_is)
    (case a_immediate => k_is)
    (case l_immediate => k_is)
    (case cc_immediate => k_is)
    (case kk_immediate => k_is)
    (case a_with_sign => k_is)
    (case l_with_sign => k_is)
    (case cc_with_sign => k_is)
    (case kk_with_sign => k_is)
    (case a_find_segment => k_is)
    (case l_find_segment => k_is)
    (case cc_find_segment => k_is)
    (case kk_find_segment => k_is)
    (case a_can_load => k_is)
    (case l_can_load => k_is)
    (case cc_can_load => k_is)
    (case kk_can_load => k_is)
    (case a_can_fetch => k_is)
    (case l_can_fetch => k_is)
    (case cc_can_fetch => k_is)
    (case kk_can_fetch => k_is)
    (case a_load_word => k_is)
    (case l_load_word => k_is)
    (case cc_load_word => k_is)
    (case kk_load_word => k_is)
    (case a_first_memory => k_is)
    (case l_first_memory => k_is)
    (case cc_first_memory => k_is)
    (case kk_first_memory => k_is)
    (case a_word_at => k_is)
    (case l_word_at => k_is)
    (case cc_word_at => k_is)
    (case kk_word_at => k_is)
    (case a_show_instruction => k_is)
    (case l_show_instruction => k_is)
    (case cc_show_instruction => k_is)
    (case kk_show_instruction => k_is)
    (case a_show_operand => k_is)
    (case l_show_operand => k_is)
    (case cc_show_operand => k_is)
    (case kk_show_operand => k_is)
    (case a_show_code => k_is)
    (case l_show_code => k_is)
    (case cc_show_code => k_is)
    (case kk_show_code => k_is)
    (case a_show_place => k_is)
    (case l_show_place => k_is)
    (case cc_show_place => k_is)
    (case kk_show_place => k_is)
    (case a_show_word => k_is)
    (case l_show_word => k_is)
    (case cc_show_word => k_is)
    (case kk_show_word => k_is)
    (case a_name_at => k_is)
    (case l_name_at => k_is)
    (case cc_name_at => k_is)
    (case kk_name_at => k_is)
    (case a_address_of => k_is)
    (case l_address_of => k_is)
    (case cc_address_of => k_is)
    (case kk_address_of => k_is)
    (case a_law_draw => k_is)
    (case l_law_draw => k_is)
    (case cc_law_draw => k_is)
    (case kk_law_draw => k_is)
    (case a_law_take => k_is)
    (case l_law_take => k_is)
    (case cc_law_take => k_is)
    (case kk_law_take => k_is)
    (case a_law_ops => k_is)
    (case l_law_ops => k_is)
    (case cc_law_ops => k_is)
    (case kk_law_ops => k_is)
    (case a_law_word => k_is)
    (case l_law_word => k_is)
    (case cc_law_word => k_is)
    (case kk_law_word => k_is)
    (case a_law_bytes => k_is)
    (case l_law_bytes => k_is)
    (case cc_law_bytes => k_is)
    (case kk_law_bytes => k_is)
    (case a_law_label => k_is)
    (case l_law_label => k_is)
    (case cc_law_label => k_is)
    (case kk_law_label => k_is)
    (case a_law_here => k_is)
    (case l_law_here => k_is)
    (case cc_law_here => k_is)
    (case kk_law_here => k_is)
    (case a_law_put_word => k_is)
    (case l_law_put_word => k_is)
    (case cc_law_put_word => k_is)
    (case kk_law_put_word => k_is)
    (case a_law_some => k_is)
    (case l_law_some => k_is)
    (case cc_law_some => k_is)
    (case kk_law_some => k_is)
    (case a_law_register => k_is)
    (case l_law_register => k_is)
    (case cc_law_register => k_is)
    (case kk_law_register => k_is)
    (case a_law_set => k_is)
    (case l_law_set => k_is)
    (case cc_law_set => k_is)
    (case kk_law_set => k_is)
    (case a_law_alu => k_is)
    (case l_law_alu => k_is)
    (case cc_law_alu => k_is)
    (case kk_law_alu => k_is)
    (case a_law_memory => k_is)
    (case l_law_memory => k_is)
    (case cc_law_memory => k_is)
    (case kk_law_memory => k_is)
    (case a_law_if => k_is)
    (case l_law_if => k_is)
    (case cc_law_if => k_is)
    (case kk_law_if => k_is)
    (case a_law_loop => k_is)
    (case l_law_loop => k_is)
    (case cc_law_loop => k_is)
    (case kk_law_loop => k_is)
    (case a_law_call => k_is)
    (case l_law_call => k_is)
    (case cc_law_call => k_is)
    (case kk_law_call => k_is)
    (case a_law_switch => k_is)
    (case l_law_switch => k_is)
    (case cc_law_switch => k_is)
    (case kk_law_switch => k_is)
    (case a_law_rows => k_is)
    (case l_law_rows => k_is)
    (case cc_law_rows => k_is)
    (case kk_law_rows => k_is)
    (case a_law_odd => k_is)
    (case l_law_odd => k_is)
    (case cc_law_odd => k_is)
    (case kk_law_odd => k_is)
    (case a_law_code_words => k_is)
    (case l_law_code_words => k_is)
    (case cc_law_code_words => k_is)
    (case kk_law_code_words => k_is)
    (case a_law_values => k_is)
    (case l_law_values => k_is)
    (case cc_law_values => k_is)
    (case kk_law_values => k_is)
    (case a_law_image => k_is)
    (case l_law_image => k_is)
    (case cc_law_image => k_is)
    (case kk_law_image => k_is)
    (case a_law_home => k_is)
    (case l_law_home => k_is)
    (case cc_law_home => k_is)
    (case kk_law_home => k_is)
    (case a_law_read => k_is)
    (case l_law_read => k_is)
    (case cc_law_read => k_is)
    (case kk_law_read => k_is)
    (case a_law_fetch => k_is)
    (case l_law_fetch => k_is)
    (case cc_law_fetch => k_is)
    (case kk_law_fetch => k_is)
    (case a_law_hexadecimal => k_is)
    (case l_law_hexadecimal => k_is)
    (case cc_law_hexadecimal => k_is)
    (case kk_law_hexadecimal => k_is)
    (case a_law_text => k_is)
    (case l_law_text => k_is)
    (case cc_law_text => k_is)
    (case kk_law_text => k_is)
    (case a_law_line => k_is)
    (case l_law_line => k_is)
    (case cc_law_line => k_is)
    (case kk_law_line => k_is)
    (case a_law => k_is)
    (case l_law => k_is)
    (case cc_law => k_is)
    (case kk_law => k_is)
    (case a_MASK => k_is)
    (case a_LOW_14 => k_is)
    (case a_LOW_18 => k_is)
    (case z_abs => k_is)
    (case z_enumerate => k_is)
    (case z_int => k_is)
    (case z_isinstance => k_is)
    (case z_len => k_is)
    (case z_min => k_is)
    (case z_range => k_is)
    (case z_sorted => k_is)
    (case z_str => k_is)
    (case z_tuple => k_is)
    (case z_zip => k_is)
    (case aOO => k_is)
    (case lOO => k_is)
    (case zOO => first | (show (38 : Nat) ≤ sizeLine; decide) | decide)
    (case vOO => exact (.cons ⟨_, rfl⟩ (.cons ⟨_, rfl⟩ (.cons ⟨_, rfl⟩ (.cons ⟨_, rfl⟩ (.cons ⟨_, rfl⟩ (.cons ⟨_, rfl⟩ (.cons ⟨_, rfl⟩ (.cons ⟨_, rfl⟩ (.cons ⟨_, rfl⟩ (.cons ⟨_, rfl⟩ (.cons ⟨_, rfl⟩ (.cons ⟨_, rfl⟩ (.cons ⟨_, rfl⟩ (.cons ⟨_, rfl⟩ (.cons ⟨_, rfl⟩ (.cons ⟨_, rfl⟩ (.cons ⟨_, rfl⟩ (.cons ⟨_, rfl⟩ (.cons ⟨_, rfl⟩ (.cons ⟨_, rfl⟩ (.cons ⟨_, rfl⟩ (.cons ⟨_, rfl⟩ (.cons ⟨_, rfl⟩ (.cons ⟨_, rfl⟩ (.cons ⟨_, rfl⟩ (.cons ⟨_, rfl⟩ (.cons ⟨_, rfl⟩ (.cons ⟨_, rfl⟩ (.cons ⟨_, rfl⟩ (.cons ⟨_, rfl⟩ (.cons ⟨_, rfl⟩ (.cons ⟨_, rfl⟩ (.cons ⟨_, rfl⟩ (.cons ⟨_, rfl⟩ (.cons ⟨_, rfl⟩ (.cons ⟨_, rfl⟩ (.cons ⟨_, rfl⟩ (.cons ⟨_, rfl⟩ .nil)))))))))))))))))))))))))))))))))))))))
    (case aFF => k_is)
    (case lFF => k_is)
    (case kFF => exact ⟨⟨_, _, rfl, rfl⟩, ⟨_, _, rfl, rfl⟩, ⟨_, _, rfl, rfl⟩, ⟨_, _, rfl, rfl⟩, ⟨_, _, rfl, rfl⟩, ⟨_, _, rfl, rfl⟩, ⟨_, _, rfl, rfl⟩, ⟨_, _, rfl, rfl⟩, ⟨_, _, rfl, rfl⟩, ⟨_, _, rfl, rfl⟩, ⟨_, _, rfl, rfl⟩, ⟨_, _, rfl, rfl⟩, ⟨_, _, rfl, rfl⟩, ⟨_, _, rfl, rfl⟩, ⟨_, _, rfl, rfl⟩, ⟨_, _, rfl, rfl⟩, ⟨_, _, rfl, rfl⟩, ⟨_, _, rfl, rfl⟩, ⟨_, _, rfl, rfl⟩, ⟨_, _, rfl, rfl⟩, ⟨_, _, rfl, rfl⟩, ⟨_, _, rfl, rfl⟩, ⟨_, _, rfl, rfl⟩, ⟨_, _, rfl, rfl⟩, ⟨_, _, rfl, rfl⟩, ⟨_, _, rfl, rfl⟩, ⟨_, _, rfl, rfl⟩, ⟨_, _, rfl, rfl⟩, ⟨_, _, rfl, rfl⟩, ⟨_, _, rfl, rfl⟩, ⟨_, _, rfl, rfl⟩, ⟨_, _, rfl, rfl⟩, ⟨_, _, rfl, rfl⟩, ⟨_, _, rfl, rfl⟩, ⟨_, _, rfl, rfl⟩, ⟨_, _, rfl, rfl⟩, ⟨_, _, rfl, rfl⟩, ⟨_, _, rfl, rfl⟩, trivial⟩)
    (case o_add => k_is)
    (case o_sub => k_is)
    (case o_mul => k_is)
    (case o_and => k_is)
    (case o_or => k_is)
    (case o_xor => k_is)
    (case o_shl => k_is)
    (case o_shr => k_is)
    (case o_sar => k_is)
    (case o_slt => k_is)
    (case o_sltu => k_is)
    (case o_divu => k_is)
    (case o_remu => k_is)
    (case o_addi => k_is)
    (case o_andi => k_is)
    (case o_ori => k_is)
    (case o_xori => k_is)
    (case o_shli => k_is)
    (case o_shri => k_is)
    (case o_sari => k_is)
    (case o_slti => k_is)
    (case o_lui => k_is)
    (case o_lw => k_is)
    (case o_lb => k_is)
    (case o_lbu => k_is)
    (case o_sw => k_is)
    (case o_sb => k_is)
    (case o_beq => k_is)
    (case o_bne => k_is)
    (case o_blt => k_is)
    (case o_bge => k_is)
    (case o_bltu => k_is)
    (case o_bgeu => k_is)
    (case o_jal => k_is)
    (case o_jalr => k_is)
    (case o_get => k_is)
    (case o_put => k_is)
    (case o_exit => k_is)


