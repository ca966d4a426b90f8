import PyProof.Rows.All
import Wide.All
import OpenK.AllK
import Wide.FinOn
import HandS.Base
import HandS.Call
import HandS.List
import HandS.Comp
import HandS.Ends
import HandS.Iter
import HandS.Text
import HandS.Words
import HandS.WordsList
import HandS.IsInst
import HandS.More
import HandS.Wide
import HandS.Style
import HandS.EndBits
import HandS.Exc
import HandS.ExcOwn
import HandS.ExcInit
import HandS.ExcField
import HandS.TryOnly
import HandS.WordsExc
import HandS.FStr
import HandS.Defaults
import HandS.Lambda
import HandS.EndTab
import HandS.Dict
import HandS.Conv
import HandS.Zip
import HandS.MakeKwOnly
import HandS.Deep
import HandS.EndOwn
import PySem.Challenge.RW_warbleline_k15_scramblers_refused
set_option Elab.async false
set_option linter.all false
set_option maxRecDepth 100000
set_option maxHeartbeats 2000000
namespace WB
open PySem PySem.Spec PyProof.Rows L2
/-! ### a def that may be called by its name, letting nothing out -/
def Cal (P : Program) (w : World) (K : PySem.W.Frag) (mg : Str → Option Value) (base : Heap) (k : Nat) (nm : Str) (ps : List Str) (sp : Sp) : Prop :=
  ∃ (f : Addr) (fd : FuncData), FnOk P w K mg base CX0 k f fd ps sp ∧ mg nm = some (.ref f) ∧ PySem.W.keepIn K (.ref f) = true ∧ Binds K fd ps []
theorem Cal.mono {P : Program} {w : World} {K : PySem.W.Frag} {mg : Str → Option Value} {base : Heap} {j k : Nat} {nm : Str} {ps : List Str} {sp : Sp} (c : Cal P w K mg base j nm ps sp) (h : j ≤ k) : Cal P w K mg base k nm ps sp := by
  obtain ⟨f, fd, a, b, d, e⟩ := c
  exact ⟨f, fd, a.mono h, b, d, e⟩
section
variable {X : Cx} {k : Nat} {nm : Str} {ps : List Str} {sp : Sp} {e : Expr} {es : List Expr} {t : TA} {p pos : Pos}
theorem pe_callC (c : Cal X.prog X.w X.K X.mg X.base k nm ps sp) (hr : Room k X.A) (hg : Gl X nm) (ha : PA X (e :: es) t) (hdb : (nm == ("__debug__" : Str)) = false := by decide)
    (he : starEach (e :: es) X.env = (false, eval e X.env) :: starEach es X.env := by rfl) (hpl : (backTo pos (starEach es X.env)).any (·.1) = false := by rfl) :
    PE X (.Call (.Name nm p) (e :: es) [] pos) (tCall sp [] E0 t) := by
  obtain ⟨f, fd, a, b, d, g⟩ := c
  exact pe_call a hr hg b d g .nil pass0 ha hdb he hpl
theorem pe_callC0 (c : Cal X.prog X.w X.K X.mg X.base k nm ps sp) (hr : Room k X.A) (hg : Gl X nm) (hdb : (nm == ("__debug__" : Str)) = false := by decide) :
    PE X (.Call (.Name nm p) [] [] pos) (tCall sp [] E0 tNil) := by
  obtain ⟨f, fd, a, b, d, g⟩ := c
  exact pe_call0 a hr hg b d g .nil pass0 hdb
end
/-! ### rules with the written part by its name (a comprehension's block has the same one) -/
section
variable {X : Cx} (K : PySem.W.Frag)
theorem ix_listK (h : X.K = K) : IxR X (rIxL K) := by subst h; exact ix_list
theorem ix_tupK (h : X.K = K) : IxR X (rIxT K) := by subst h; exact ix_tup
theorem ix_seqK (h : X.K = K) : IxR X (rIx K) := by subst h; exact ix_seq
def rLenK (K : PySem.W.Frag) : List V → Hp → VK → Prop := fun xs H Q => ∃ p ys, xs = [.ref p] ∧ (SqL K H p ys ∨ SqT K H p ys) ∧ Q (.int ys.length) H
theorem call_lenK (h : X.K = K) : CallR X (.builtin "len") (rLenK K) := by subst h; exact call_len_seq
def rListK (K : PySem.W.Frag) : List V → Hp → VK → Prop := fun xs H Q => ∃ p ys, xs = [.ref p] ∧ (SqL K H p ys ∨ SqT K H p ys) ∧ ∀ l, H l = none → Q (.ref l) (upd H l (.lst ys))
theorem call_listK (h : X.K = K) : CallR X (.type "list") (rListK K) := by subst h; exact call_list_of
theorem call_isiK1 (h : X.K = K) : CallR X (.builtin "isinstance") (rIsi K) := by subst h; exact call_isi
theorem call_isiTK (h : X.K = K) : CallR X (.builtin "isinstance") (rIsiT K) := by subst h; exact call_isiT
theorem op_inK (h : X.K = K) : OpR X (compareOp .In) (rIn K false) := by subst h; exact op_in_seq
theorem op_notInK (h : X.K = K) : OpR X (compareOp .NotIn) (rIn K true) := by subst h; exact op_notIn_seq
theorem op_eqDK (h : X.K = K) (hu : X.A.units + 64 < cLine) : OpR X (compareOp .Eq) (rEqD K) := by subst h; exact op_eqD hu
theorem op_neDK (h : X.K = K) (hu : X.A.units + 64 < cLine) : OpR X (compareOp .NotEq) (rNeD K) := by subst h; exact op_neD hu
theorem sl_listK (h : X.K = K) : SlR X (rSlL K) := by subst h; exact sl_list
theorem cr_allK (h : X.K = K) (hc : X.calm = true) : CallR X (.builtin "all") (rAll K) := by subst h; exact cr_all hc
variable {o e : Expr} {es : List Expr} {to : TE} {t : TA} {name : Str} {apos cpos : Pos} {T id : String} {r : V → List V → Hp → VK → Prop}
theorem pe_bm0K (h : X.K = K) (pa : PlainAttrs T) (slot : Slot T name id) (hty : typeOf (.builtin id) = pure (.type "method_descriptor")) (hm : MtR X id r) (ho : PE X o to)
    (hbase : attributeBase o name X.env (eval o X.env) = eval o X.env := by rfl) (hline : (apos.endLine == cpos.line) = true := by rfl) : PE X (.Call (.Attribute o name apos) [] [] cpos) (tBM0 K T r to) := by
  subst h; exact pe_bm0 pa slot hty hm ho hbase hline
theorem pe_bmK (h : X.K = K) (pa : PlainAttrs T) (slot : Slot T name id) (hty : typeOf (.builtin id) = pure (.type "method_descriptor")) (hm : MtR X id r) (ho : PE X o to) (ha : PA X (e :: es) t)
    (hbase : attributeBase o name X.env (eval o X.env) = eval o X.env := by rfl)
    (hfew : ((backTo cpos (starEach (e :: es) X.env)).all (fun x => !x.1) && (backToKw cpos (keywordEach [] X.env)).all (fun x => x.1.isSome)
      && decide ((e :: es).length + ([] : List Keyword).length + (if ([] : List Keyword).isEmpty then 0 else 1) < 30)) = true := by rfl)
    (hline : (apos.endLine == cpos.line) = true := by rfl) (hs : starEach (e :: es) X.env = (false, eval e X.env) :: starEach es X.env := by rfl) (hplain : (backTo cpos (starEach es X.env)).any (·.1) = false := by rfl) :
    PE X (.Call (.Attribute o name apos) (e :: es) [] cpos) (tBM K T r to t) := by
  subst h; exact pe_bm pa slot hty hm ho ha hbase hfew hline hs hplain
variable {tg l : Expr} {tl : TE}
theorem pi_listK (h : X.K = K) (hl : PE X l tl) : PI X tg l (iList K tl) := by subst h; exact pi_list hl
theorem pi_tupK (h : X.K = K) (hl : PE X l tl) : PI X tg l (iTup K tl) := by subst h; exact pi_tup hl
end
/-- behind a statement: what its ways have in common -/
theorem seq_by {t u : TS} {D : Ends} {σ : L2.St} {H : Hp} (J : L2.St → Hp → Prop) (h2 : ∀ σ1 H1, J σ1 H1 → u D σ1 H1) (h1 : (∀ σ1 H1, J σ1 H1 → u D σ1 H1) → t { D with nx := u D } σ H) : tSeq t u D σ H := h1 h2
theorem if_by {c : TT} {t1 t2 u : TS} {D : Ends} {σ : L2.St} {H : Hp} (J : L2.St → Hp → Prop) (h2 : ∀ σ1 H1, J σ1 H1 → u D σ1 H1) (h1 : (∀ σ1 H1, J σ1 H1 → u D σ1 H1) → tIfS c t1 t2 { D with nx := u D } σ H) : tSeq (tIfS c t1 t2) u D σ H := h1 h2
theorem asg_by {te : TE} {i : Nat} {u : TS} {D : Ends} {σ : L2.St} {H : Hp} (J : V → Hp → Prop) (h2 : ∀ v H1, J v H1 → u D (σ.set i (some v)) H1) (h1 : (∀ v H1, J v H1 → u D (σ.set i (some v)) H1) → te σ H (fun x H1 => gName i x σ H1 (u D))) : tSeq (tAsg te (gName i)) u D σ H := h1 h2
theorem name_by {i : Nat} {v : V} {σ : L2.St} {H : Hp} {Q : L2.St → Hp → Prop} (h : Q (σ.set i (some v)) H) : gName i v σ H Q := h
/-! ### heaps -/
theorem same_upd {H : Hp} {p : Addr} {o : HO} (h : H p = none) : Same H (upd H p o) := fun b x e => by
  rw [upd_ne (ne_of_none e h)]
  exact e
/-- an object that was not there ahead may change -/
theorem same_mut {H H' : Hp} {p : Addr} {o : HO} (e : Same H H') (h : H p = none) : Same H (upd H' p o) := fun b x q => by
  rw [upd_ne (ne_of_none q h)]
  exact e b x q
/-- all but what stands at b stays -/
def Mv (b : Addr) (H H' : Hp) : Prop := ∀ a o, a ≠ b → H a = some o → H' a = some o
theorem Mv.refl (b : Addr) (H : Hp) : Mv b H H := fun _ _ _ h => h
theorem Mv.trans {b : Addr} {H H1 H2 : Hp} (x : Mv b H H1) (y : Mv b H1 H2) : Mv b H H2 := fun a o n h => y a o n (x a o n h)
theorem Mv.of {b : Addr} {H H' : Hp} (s : Same H H') : Mv b H H' := fun a o _ h => s a o h
theorem Mv.upd {b : Addr} {H H' : Hp} {o : HO} (x : Mv b H H') : Mv b H (upd H' b o) := fun a u n h => by
  rw [upd_ne n]
  exact x a u n h
theorem Mv.none {b p : Addr} {H H' : Hp} (x : Mv b H H') (n : p ≠ b) (h : H' p = none) : H p = none := by
  cases q : H p with
  | none => rfl
  | some o =>
    rw [x p o n q] at h
    cases h
/-! ### the bag: b.1 the bag, b.2 its numbers -/
def bagL (s : Addr) (i r x c : Int) : List V := [.ref s, .int i, .int r, .int x, .int c]
def Bag (b : Addr × Addr) (H : Hp) : Prop := ∃ (ns : List Int) (i r x c : Int), H b.1 = some (.lst (bagL b.2 i r x c)) ∧ H b.2 = some (.lst (ns.map V.int)) ∧ b.2 ≠ b.1 ∧ 0 ≤ i ∧ 0 ≤ x ∧ x < 2147483648
theorem Bag.same {b : Addr × Addr} {H H' : Hp} (g : Bag b H) (s : Same H H') : Bag b H' := by
  obtain ⟨ns, i, r, x, c, h1, h2, h3, h4, h5, h6⟩ := g
  exact ⟨ns, i, r, x, c, s _ _ h1, s _ _ h2, h3, h4, h5, h6⟩
theorem Bag.ne {b : Addr × Addr} {p : Addr} {H : Hp} (g : Bag b H) (h : H p = none) : p ≠ b.1 := by
  obtain ⟨ns, i, r, x, c, h1, _⟩ := g
  exact fun z => by rw [z, h1] at h; cases h
theorem Bag.ne2 {b : Addr × Addr} {p : Addr} {H : Hp} (g : Bag b H) (h : H p = none) : p ≠ b.2 := by
  obtain ⟨ns, i, r, x, c, _, h1, _⟩ := g
  exact fun z => by rw [z, h1] at h; cases h
theorem Bag.upd {b : Addr × Addr} {p : Addr} {o : HO} {H : Hp} (g : Bag b H) (h1 : p ≠ b.1) (h2 : p ≠ b.2) : Bag b (L2.upd H p o) := by
  obtain ⟨ns, i, r, x, c, e1, e2, h3⟩ := g
  exact ⟨ns, i, r, x, c, by rw [upd_ne h1.symm]; exact e1, by rw [upd_ne h2.symm]; exact e2, h3⟩
/-- a draw: its bag, its bound -/
def spPick : Sp := fun vs H Q _ => ∃ (b : Addr × Addr) (top : Int), vs = [.ref b.1, .int top] ∧ Bag b H ∧ 0 < top ∧ top < 1073741824 ∧ ∀ (H' : Hp) (d : Int), Mv b.1 H H' → Bag b H' → 0 ≤ d → d < top → Q (.int d) H'
/-- the bag of a script -/
def spBag (K : PySem.W.Frag) : Sp := fun vs H Q _ => ∃ (a : Addr) (ns : List Int), vs = [.ref a] ∧ SqL K H a (ns.map V.int) ∧ ∀ (H' : Hp) (b : Addr × Addr), Same H H' → H b.1 = none → Bag b H' → Q (.ref b.1) H'
/-- one of the list's things -/
def spOf (K : PySem.W.Frag) : Sp := fun vs H Q _ => ∃ (b : Addr × Addr) (l : Addr) (xs : List V), vs = [.ref b.1, .ref l] ∧ Bag b H ∧ l ≠ b.1 ∧ H l = some (.lst xs) ∧ 0 < xs.length ∧ xs.length < 1000 ∧ ∀ (H' : Hp) (v : V), Mv b.1 H H' → Bag b H' → v ∈ xs → Q v H'
section
variable {K : PySem.W.Frag}
def tyN : PyData → String
  | .none => "NoneType"
  | .bool _ => "bool"
  | .int _ => "int"
  | .str _ => "str"
  | .list _ => "list"
  | .tuple _ => "tuple"
  | .dict _ => "dict"
theorem ty_dp {H : Hp} {x : V} {d : PyData} (h : Dp K H x d) : TyX K H x (.type (tyN d)) := by
  cases h with
  | non => exact .base .non
  | bl b => exact .base (.bl b)
  | int i => exact .base (.int i)
  | str x => exact .base (.str x)
  | lst hs _ =>
    rcases hs with (h | ⟨o, h⟩) | ⟨o, its, n, h1, h2, _⟩
    · exact .base (.lst h)
    · exact .base (.frz h)
    · exact .kList h1 h2
  | tup hs _ =>
    rcases hs with (h | ⟨o, h⟩) | ⟨o, its, n, h1, h2, _⟩
    · exact .base (.tup h)
    · exact .fTuple h
    · exact .kTuple h1 h2
theorem same_t {H H' : Hp} {a : Addr} {xs : List V} (e : Same H H') (h : SqT K H a xs) : SqT K H' a xs := by
  rcases h with (h | ⟨o, h⟩) | h
  · exact .inl (.inl (e _ _ h))
  · exact .inl (.inr ⟨o, e _ _ h⟩)
  · exact .inr h
mutual
theorem dp_same {H H' : Hp} (e : Same H H') : ∀ {d : PyData} {x : V}, Dp K H x d → Dp K H' x d
  | _, _, .non => .non
  | _, _, .bl b => .bl b
  | _, _, .int i => .int i
  | _, _, .str s => .str s
  | _, _, .lst hs ha => .lst (e.seq hs) (dpa_same e ha)
  | _, _, .tup hs ha => .tup (same_t e hs) (dpa_same e ha)
theorem dpa_same {H H' : Hp} (e : Same H H') : ∀ {ds : List PyData} {xs : List V}, DpAll K H xs ds → DpAll K H' xs ds
  | _, _, .nil => .nil
  | _, _, .cons h t => .cons (dp_same e h) (dpa_same e t)
end
theorem dpa_len {H : Hp} : ∀ {xs : List V} {ds : List PyData}, DpAll K H xs ds → xs.length = ds.length
  | _, _, .nil => rfl
  | _, _, .cons _ t => congrArg (· + 1) (dpa_len t)
theorem dpa_get {H : Hp} : ∀ {xs : List V} {ds : List PyData} {i : Nat} {d : PyData}, DpAll K H xs ds → ds[i]? = some d → ∃ x, xs[i]? = some x ∧ Dp K H x d
  | _, _, _, _, .nil, e => by simp at e
  | _, _, 0, _, .cons h _, e => by simp at e; subst e; exact ⟨_, rfl, h⟩
  | _, _, i + 1, d, .cons _ t, e => by
    obtain ⟨x, h1, h2⟩ := dpa_get (i := i) (d := d) t (by simpa using e)
    exact ⟨x, by simpa using h1, h2⟩
/-- data of at most so many levels -/
def Dn : Nat → PyData → Prop
  | 0, _ => False
  | n + 1, d => (∃ b, d = .bool b) ∨ (∃ i, d = .int i) ∨ (∃ s, d = .str s) ∨ d = .none ∨ ∃ ds, (d = .list ds ∨ d = .tuple ds) ∧ ds.length ≤ 100000 ∧ ∀ e ∈ ds, Dn n e
def spSame (K : PySem.W.Frag) (n : Nat) : Sp := fun vs H Q _ => ∃ (x y : V) (d : PyData), vs = [x, y] ∧ Dp K H x d ∧ Dp K H y d ∧ Dn n d ∧ SeqAt.shaped d = true ∧ ∀ H', Same H H' → Q (.bl true) H'
theorem tYes_by {σ : L2.St} {H : Hp} {Q : Bool → Hp → Prop} (h : Q true H) : tYes σ H Q := h
theorem canLay_mem : ∀ {ds : List PyData} {e : PyData}, e ∈ ds → PyData.canLayAll0 ds = true → PyData.canLay0 e = true
  | d :: ds, e, hm, h => by
    have h : (PyData.canLay0 d && PyData.canLayAll0 ds) = true := h
    rw [Bool.and_eq_true] at h
    rcases List.mem_cons.mp hm with rfl | hm
    · exact h.1
    · exact canLay_mem hm h.2
theorem depth_mem : ∀ {ds : List PyData} {e : PyData}, e ∈ ds → PyData.depth e ≤ PyData.depthAll ds
  | d :: ds, e, hm => by
    show _ ≤ max (PyData.depth d) (PyData.depthAll ds)
    rcases List.mem_cons.mp hm with rfl | hm
    · exact Nat.le_max_left _ _
    · exact Nat.le_trans (depth_mem hm) (Nat.le_max_right _ _)
theorem shaped_mem {ds : List PyData} {e : PyData} (hm : e ∈ ds) (h : SeqAt.shaped (.list ds) = true ∨ SeqAt.shaped (.tuple ds) = true) : SeqAt.shaped e = true := by
  have k : PyData.canLayAll0 ds = true ∧ PyData.depthAll ds + 1 ≤ 64 := by
    rcases h with h | h
    · exact ⟨SeqAt.canLay_of_shaped h, SeqAt.depth_of_shaped h⟩
    · exact ⟨SeqAt.canLay_of_shaped h, SeqAt.depth_of_shaped h⟩
  unfold SeqAt.shaped
  rw [Bool.and_eq_true]
  exact ⟨canLay_mem hm k.1, decide_eq_true (by have := depth_mem hm; omega)⟩
theorem ifT {A B : Prop} {b : Bool} (e : b = true) (h : A) : if b = true then A else B := by rw [if_pos e]; exact h
theorem ifF {A B : Prop} {b : Bool} (e : b = false) (h : B) : if b = true then A else B := by rw [e]; exact iteF h
end
end WB
namespace WB
open PySem PySem.Spec PyProof.Rows L2
section
variable {K : PySem.W.Frag}
theorem for_enumK {a : Addr} {xs : List V} {g : TG} {tb : TS} {D : Ends} {σ : L2.St} {H : Hp} (Pv : Nat → L2.St → Hp → Prop) (h0 : Pv 0 σ H) (hl : ∀ i σ H, i ≤ xs.length → Pv i σ H → SqL K H a xs)
    (hs : ∀ i x T σ H, xs[i]? = some x → Pv i σ H → H T = none → g (.ref T) σ (upd H T (.tup [.int (i : Nat), x])) fun σ2 H2 => tb { D with nx := Pv (i + 1), ct := Pv (i + 1), bk := D.nx } σ2 H2) (hd : ∀ σ H, Pv xs.length σ H → D.nx σ H) :
    ∃ W : Nat → Nat → L2.St → Hp → Prop, (∃ m, W 0 m σ H) ∧ ∀ i m σ H, W i m σ H →
      ((Ite K a).stop i H ∧ D.nx σ H) ∨ ((Ite K a).go i H ∧ ∃ N : L2.St → Hp → Prop, (∀ σ' H', N σ' H' → ∃ m', m' < m ∧ W (i + 1) m' σ' H') ∧ ∀ x H', (Ite K a).yld i H x H' → g x σ H' fun σ2 H2 => tb { D with nx := N, ct := N, bk := D.nx } σ2 H2) := by
  refine ⟨fun i m σ H => m = xs.length - i ∧ i ≤ xs.length ∧ Pv i σ H, ⟨xs.length, by simp, Nat.zero_le _, h0⟩, ?_⟩
  rintro i m σ H ⟨rfl, hi, p⟩
  have q := hl i σ H hi p
  by_cases hlt : i < xs.length
  · refine .inr ⟨⟨xs, xs[i], q, by simp [hlt]⟩, Pv (i + 1), fun σ' H' p' => ⟨xs.length - (i + 1), by omega, rfl, hlt, p'⟩, fun x H' y => ?_⟩
    obtain ⟨T, z, rfl, nT, rfl, y⟩ := y
    exact hs i z T σ H (y xs q) p nT
  · have e : i = xs.length := by omega
    subst e
    exact .inl ⟨⟨xs, q, Nat.le_refl _⟩, hd σ H p⟩
end
/-! ### bits, numbers in bits, seals: the mathematics -/
def Bits (ns : List Int) : Prop := ∀ z ∈ ns, z = 0 ∨ z = 1
/-- a number in so many bits, the one of greatest worth first -/
def wr : Nat → Int → List Int
  | 0, _ => []
  | i + 1, n => ((n / 2 ^ i) % 2) :: wr i n
theorem wr_len : ∀ (i : Nat) (n : Int), (wr i n).length = i
  | 0, _ => rfl
  | i + 1, n => congrArg (· + 1) (wr_len i n)
theorem wr_bits : ∀ (i : Nat) (n : Int), Bits (wr i n)
  | 0, _ => fun z h => nomatch h
  | i + 1, n => fun z h => by
    rcases List.mem_cons.mp h with rfl | h
    · omega
    · exact wr_bits i n z h
theorem half (n : Int) (i : Nat) : n / 2 ^ i / 2 = n / 2 ^ (i + 1) := by
  rw [Int.pow_succ, Int.ediv_ediv_of_nonneg (by exact Int.pow_nonneg (by decide))]
/-- the register: one more bit -/
def stepR (c : Nat) (b : Int) : Nat := if ((c / 32768 : Nat) : Int) = b then c * 2 % 65536 else (c * 2 % 65536) ^^^ 4129
theorem stepR_lt (c : Nat) (b : Int) : stepR c b < 65536 := by
  unfold stepR
  have h : c * 2 % 65536 < 65536 := Nat.mod_lt _ (by decide)
  split
  · exact h
  · exact Nat.xor_lt_two_pow (n := 16) h (by decide)
def regs (bs : List Int) : Nat := bs.foldl stepR 65535
theorem regs_lt (bs : List Int) : regs bs < 65536 := by
  have : ∀ (l : List Int) (c : Nat), c < 65536 → l.foldl stepR c < 65536 := by
    intro l
    induction l with
    | nil => exact fun c h => h
    | cons b r ih => exact fun c _ => ih _ (stepR_lt c b)
  exact this bs 65535 (by decide)
def sealL (bs : List Int) : List Int := wr 16 (regs bs : Nat)
theorem take_more {α : Type} {l : List α} {i : Nat} {x : α} (h : l[i]? = some x) : l.take (i + 1) = l.take i ++ [x] := by
  rw [List.take_add_one, h]
  rfl
theorem regs_more {bs : List Int} {i : Nat} {b : Int} (h : bs[i]? = some b) : regs (bs.take (i + 1)) = stepR (regs (bs.take i)) b := by
  unfold regs
  rw [take_more h, List.foldl_append]
  rfl
theorem wr_at (c : Nat) (i : Nat) : ((c : Int) / 2 ^ i) % 2 = if c.testBit i then 1 else 0 := by
  have e : ((c : Int) / 2 ^ i) % 2 = ((c / 2 ^ i % 2 : Nat) : Int) := by
    rw [Int.natCast_emod, Int.natCast_ediv, Int.natCast_pow]
    rfl
  rw [e, Nat.testBit_eq_decide_div_mod_eq]
  have h : c / 2 ^ i % 2 < 2 := Nat.mod_lt _ (by decide)
  by_cases h1 : c / 2 ^ i % 2 = 1
  · rw [h1]; rfl
  · have h0 : c / 2 ^ i % 2 = 0 := by omega
    rw [h0]; rfl
def holdsB (ns : List Int) : Bool := decide (16 ≤ ns.length) && decide (sealL (ns.take (ns.length - 16)) = ns.drop (ns.length - 16))
theorem wr_shift (c : Nat) : wr 16 ((c * 2 % 65536 : Nat) : Int) = (wr 16 (c : Int)).drop 1 ++ [0] := by
  have e : ((c * 2 % 65536 : Nat) : Int) = (c : Int) * 2 % 65536 := by rw [Int.natCast_emod, Int.natCast_mul]; rfl
  rw [e]
  generalize (c : Int) = z
  simp only [wr, List.drop, List.cons_append, List.nil_append, List.cons.injEq, and_true]
  refine ⟨?_, ?_, ?_, ?_, ?_, ?_, ?_, ?_, ?_, ?_, ?_, ?_, ?_, ?_, ?_, ?_⟩ <;> omega
def fl (M : List Int) (k : Nat) : List Int := M.set k (1 - M.getD k 0)
theorem wr_flip (a : Nat) : wr 16 ((a ^^^ 4129 : Nat) : Int) = fl (fl (fl (wr 16 (a : Int)) 3) 10) 15 := by
  simp only [wr, wr_at, Nat.testBit_xor, fl]
  simp only [List.set, List.getD, List.getElem?_cons_succ, List.getElem?_cons_zero, Option.getD]
  have h : ∀ i : Nat, (if ((a.testBit i) ^^ true) = true then (1 : Int) else 0) = 1 - (if a.testBit i = true then 1 else 0) := by
    intro i
    cases a.testBit i <;> rfl
  have t0 : (4129 : Nat).testBit 0 = true := by decide
  have t5 : (4129 : Nat).testBit 5 = true := by decide
  have t12 : (4129 : Nat).testBit 12 = true := by decide
  have n1 : (4129 : Nat).testBit 1 = false := by decide
  have n2 : (4129 : Nat).testBit 2 = false := by decide
  have n3 : (4129 : Nat).testBit 3 = false := by decide
  have n4 : (4129 : Nat).testBit 4 = false := by decide
  have n6 : (4129 : Nat).testBit 6 = false := by decide
  have n7 : (4129 : Nat).testBit 7 = false := by decide
  have n8 : (4129 : Nat).testBit 8 = false := by decide
  have n9 : (4129 : Nat).testBit 9 = false := by decide
  have n10 : (4129 : Nat).testBit 10 = false := by decide
  have n11 : (4129 : Nat).testBit 11 = false := by decide
  have n13 : (4129 : Nat).testBit 13 = false := by decide
  have n14 : (4129 : Nat).testBit 14 = false := by decide
  have n15 : (4129 : Nat).testBit 15 = false := by decide
  simp only [t0, t5, t12, n1, n2, n3, n4, n6, n7, n8, n9, n10, n11, n13, n14, n15, Bool.xor_false, h]
/-- data of ints -/
def dI (ns : List Int) : PyData := .list (ns.map PyData.int)
theorem dpa_ints {K : PySem.W.Frag} {H : Hp} : ∀ ns : List Int, DpAll K H (ns.map V.int) (ns.map PyData.int)
  | [] => .nil
  | n :: r => .cons (.int n) (dpa_ints r)
theorem dp_ints {K : PySem.W.Frag} {H : Hp} {a : Addr} {ns : List Int} (h : SqL K H a (ns.map V.int)) : Dp K H (.ref a) (dI ns) := .lst h (dpa_ints ns)
theorem depth_ints : ∀ ns : List Int, PyData.depthAll (ns.map PyData.int) = 0
  | [] => rfl
  | n :: r => by
    show max 0 (PyData.depthAll (r.map PyData.int)) = 0
    rw [depth_ints r]
    rfl
theorem canLay_ints : ∀ ns : List Int, PyData.canLayAll0 (ns.map PyData.int) = true
  | [] => rfl
  | n :: r => by
    show (true && PyData.canLayAll0 (r.map PyData.int)) = true
    rw [canLay_ints r]
    rfl
theorem shaped_ints (ns : List Int) : SeqAt.shaped (dI ns) = true := by
  unfold SeqAt.shaped
  rw [Bool.and_eq_true]
  refine ⟨canLay_ints ns, decide_eq_true ?_⟩
  show PyData.depthAll (ns.map PyData.int) + 1 ≤ 64
  rw [depth_ints]
  decide
theorem eqv_ints (ns ms : List Int) : PyData.eqv (dI ns) (dI ms) = decide (ns = ms) := by
  have : ∀ (ns ms : List Int), PyData.eqvAll (ns.map PyData.int) (ms.map PyData.int) = decide (ns = ms) := by
    intro ns
    induction ns with
    | nil =>
      intro ms
      cases ms with
      | nil => rfl
      | cons m r => rfl
    | cons n r ih =>
      intro ms
      cases ms with
      | nil => rfl
      | cons m t =>
        show (PyData.eqv (.int n) (.int m) && PyData.eqvAll (r.map PyData.int) (t.map PyData.int)) = _
        rw [ih t]
        show ((n == m) && decide (r = t)) = _
        rw [show (n == m) = decide (n = m) from by rw [Bool.beq_eq_decide_eq], ← Bool.decide_and]
        exact decide_eq_decide.mpr ⟨fun h => by rw [h.1, h.2], fun h => List.cons.inj h⟩
  exact this ns ms
/-! ### what a law knows of the heap: the bag at b, and these -/
structure SH (b : Addr × Addr) (H : Hp) (L : List (Addr × HO)) : Prop where
  bag : Bag b H
  nb : ∀ p ∈ L, p.1 ≠ b.1 ∧ p.1 ≠ b.2
  kn : ∀ p ∈ L, H p.1 = some p.2
section
variable {b : Addr × Addr} {p : Addr} {H H' : Hp} {L L' : List (Addr × HO)} {o o' : HO}
theorem SH.same (h : SH b H L) (s : Same H H') : SH b H' L := ⟨h.bag.same s, h.nb, fun q hq => s _ _ (h.kn q hq)⟩
theorem SH.mv (h : SH b H L) (m : Mv b.1 H H') (g : Bag b H') : SH b H' L := ⟨g, h.nb, fun q hq => m _ _ (h.nb q hq).1 (h.kn q hq)⟩
theorem SH.add (h : SH b H L) (n : p ≠ b.1) (n2 : p ≠ b.2) (e : H p = some o) : SH b H ((p, o) :: L) :=
  ⟨h.bag, fun q hq => (List.mem_cons.mp hq).elim (fun z => by rw [z]; exact ⟨n, n2⟩) (h.nb q), fun q hq => (List.mem_cons.mp hq).elim (fun z => by rw [z]; exact e) (h.kn q)⟩
theorem SH.new (h : SH b H L) (n : H p = none) : SH b (upd H p o) ((p, o) :: L) := (h.same (same_upd n)).add (h.bag.ne n) (h.bag.ne2 n) upd_same
theorem SH.newS (h : SH b H L) (s : Same H H') (n : H p = none) (e : H' p = some o) : SH b H' ((p, o) :: L) := (h.same s).add (h.bag.ne n) (h.bag.ne2 n) e
theorem SH.newM (h : SH b H L) (m : Mv b.1 H H') (g : Bag b H') (n : H p = none) (e : H' p = some o) : SH b H' ((p, o) :: L) := (h.mv m g).add (h.bag.ne n) (h.bag.ne2 n) e
theorem SH.sub (h : SH b H L) (hs : ∀ q ∈ L', q ∈ L) : SH b H L' := ⟨h.bag, fun q hq => h.nb q (hs q hq), fun q hq => h.kn q (hs q hq)⟩
theorem SH.get (h : SH b H L) (hm : (p, o) ∈ L) : H p = some o := h.kn _ hm
theorem SH.ne (h : SH b H L) (hm : (p, o) ∈ L) : p ≠ b.1 := (h.nb _ hm).1
/-- the first of them is written; the others stand elsewhere -/
theorem SH.put (h : SH b H ((p, o) :: L)) (hd : ∀ q ∈ L, q.1 ≠ p) : SH b (upd H p o') ((p, o') :: L) :=
  ⟨h.bag.upd (h.nb _ (.head _)).1 (h.nb _ (.head _)).2, fun q hq => (List.mem_cons.mp hq).elim (fun z => by rw [z]; exact h.nb (p, o) (.head L)) (fun hq => h.nb q (.tail _ hq)),
    fun q hq => (List.mem_cons.mp hq).elim (fun z => by rw [z]; exact upd_same) (fun hq => by rw [upd_ne (hd q hq)]; exact h.kn q (.tail _ hq))⟩
theorem SH.apart (h : SH b H L) (n : H p = none) : ∀ q ∈ L, q.1 ≠ p := fun q hq => ne_of_none (h.kn q hq) n
theorem SH.nil (g : Bag b H) : SH b H [] := ⟨g, (fun _ h => absurd h List.not_mem_nil), (fun _ h => absurd h List.not_mem_nil)⟩
end
theorem bits_nil : Bits [] := fun _ h => nomatch h
theorem bits_app {a c : List Int} (h : Bits a) (h' : Bits c) : Bits (a ++ c) := fun z hz => (List.mem_append.mp hz).elim (h z) (h' z)
theorem bits_one {z : Int} (h : z = 0 ∨ z = 1) : Bits [z] := fun y hy => by rw [List.mem_singleton.mp hy]; exact h
theorem bits_take {a : List Int} (h : Bits a) (n : Nat) : Bits (a.take n) := fun z hz => h z (List.mem_of_mem_take hz)
theorem bits_drop {a : List Int} (h : Bits a) (n : Nat) : Bits (a.drop n) := fun z hz => h z (List.mem_of_mem_drop hz)
theorem seal_bits (ns : List Int) : Bits (sealL ns) := wr_bits _ _
theorem seal_len (ns : List Int) : (sealL ns).length = 16 := wr_len _ _
theorem cut_to_n (xs : List V) (n : Nat) : cutV xs none (some (n : Int)) = xs.take n := by
  unfold cutV
  rw [HT.sIx_none, HT.sIx_nat, List.drop_zero, Nat.sub_zero]
  by_cases h : n ≤ xs.length
  · rw [Nat.min_eq_left h]
  · rw [Nat.min_eq_right (by omega), List.take_of_length_le (Nat.le_refl _), List.take_of_length_le (by omega)]
theorem cut_from_n (xs : List V) (n : Nat) : cutV xs (some (n : Int)) none = xs.drop n := by
  unfold cutV
  rw [HT.sIx_none, HT.sIx_nat]
  by_cases h : n ≤ xs.length
  · rw [Nat.min_eq_left h]
    exact List.take_of_length_le (by simp)
  · rw [Nat.min_eq_right (by omega), List.drop_of_length_le (Nat.le_refl _), List.drop_of_length_le (by omega)]
    exact List.take_nil
theorem sIx_back (l d n : Nat) (h : 0 < n) : HT.sIx l d (some (-(n : Int))) = l - n := by
  show (if -(n : Int) < 0 then (-(n : Int) + (l : Int)).toNat else min (-(n : Int)).toNat l) = l - n
  rw [if_pos (by omega)]
  omega
theorem cut_to_b (xs : List V) (n : Nat) (h : 0 < n) : cutV xs none (some (-(n : Int))) = xs.take (xs.length - n) := by
  unfold cutV
  rw [HT.sIx_none, sIx_back _ _ n h, List.drop_zero, Nat.sub_zero]
theorem cut_from_b (xs : List V) (n : Nat) (h : 0 < n) : cutV xs (some (-(n : Int))) none = xs.drop (xs.length - n) := by
  unfold cutV
  rw [HT.sIx_none, sIx_back _ _ n h]
  exact List.take_of_length_le (by simp)
theorem sz4 {n : Nat} (h : n ≤ 100000) : n ≤ sizeLine := Nat.le_trans h (by decide)
theorem sz4l {n : Nat} (h : n < 100000) : n < sizeLine := Nat.lt_of_lt_of_le h (by decide)
theorem holds_sealed {ns : List Int} : holdsB (ns ++ sealL ns) = true := by
  unfold holdsB
  have l : (ns ++ sealL ns).length = ns.length + 16 := by rw [List.length_append, seal_len]
  rw [l, Nat.add_sub_cancel, List.take_left, List.drop_left]
  simp
theorem holds_short {ns : List Int} (h : ns.length < 16) : holdsB ns = false := by
  unfold holdsB
  rw [decide_eq_false (by omega), Bool.false_and]
theorem inV_ints (z : Int) : ∀ ks : List Int, inV (.int z) (ks.map V.int) = decide (z ∈ ks)
  | [] => rfl
  | k :: r => by
    show ((k == z) || inV (.int z) (r.map V.int)) = _
    rw [inV_ints z r]
    by_cases h : z = k
    · subst h
      simp
    · have h2 : (k == z) = false := by simpa using fun e => h e.symm
      rw [h2, Bool.false_or]
      exact decide_eq_decide.mpr ⟨fun hm => .tail _ hm, fun hm => (List.mem_cons.mp hm).elim (fun e => absurd e h) (fun e => e)⟩
def isB (b : Int) : Prop := b = 0 ∨ b = 1
theorem bits_cons {b : Int} {r : List Int} (h : Bits (b :: r)) : isB b ∧ Bits r := ⟨h b (.head _), fun z hz => h z (.tail _ hz)⟩
theorem getI {ns : List Int} {i : Nat} {y : V} (h : (ns.map V.int)[i]? = some y) : ∃ z, ns[i]? = some z ∧ y = V.int z := by
  rw [List.getElem?_map] at h
  cases e : ns[i]? with
  | none => rw [e] at h; cases h
  | some z => rw [e] at h; exact ⟨z, rfl, (Option.some.inj h).symm⟩
end WB
namespace WB
open PySem PySem.Spec PyProof.Rows L2
/-! ### a class's own function, called by the class: C.m(e, ..) -/
structure ClsFn (K : PySem.W.Frag) (mg : Str → Option Value) (x m : Str) (C f : Addr) : Prop where
  gC : mg x = some (.ref C)
  sg : PySem.W.specialIn K (.ref C) "__getattribute__" = some (some (.builtin "type.__getattribute__"))
  ty : PySem.W.typeIn K (.ref C) = some (.type "type")
  rd : PySem.W.readsIn K C (.type "type") = true
  fc : PySem.W.findCls K (.ref C) (.type "type") m = some (.val (.ref f))
  hd : PySem.W.handedIn (.ref f) = true
  kp : PySem.W.keepIn K (.ref f) = true
section
variable {X : Cx} {CX : CXT} {k : Nat} {f C : Addr} {fd : FuncData} {ps : List Str} {sp : Sp} {E : XK} {x m : Str} {p1 p2 pos : Pos} {e : Expr} {es : List Expr} {t : TA}
theorem pe_clsfn {pl : Sem Bool} (T : ClsFn X.K X.mg x m C f) (F : FnOk X.prog X.w X.K X.mg X.base CX k f fd ps sp) (hr : Room k X.A) (hb : Binds X.K fd ps []) (hx : Passes CX X E) (hg : Gl X x) (ha : PA X (e :: es) t)
    (hc : eval (.Call (.Attribute (.Name x p1) m p2) (e :: es) [] pos) X.env = (do
      let ov ← eval (.Name x p1) X.env
      standAt p2.atName
      let (f, first) ← holding [ov] (getMethod ov m pl)
      callWith pos f first (backTo pos (starEach (e :: es) X.env)) (backToKw pos (keywordEach [] X.env))) := by rfl)
    (hdb : (x == ("__debug__" : Str)) = false := by decide) (he : starEach (e :: es) X.env = (false, eval e X.env) :: starEach es X.env := by rfl) (hpl : (backTo pos (starEach es X.env)).any (·.1) = false := by rfl) :
    PE X (.Call (.Attribute (.Name x p1) m p2) (e :: es) [] pos) (tCall sp [] E t) := by
  refine ⟨fun pins s σ H Q I h => ?_⟩
  refine PySem.W.methodCall_KW (ld_glob I hg T.gC ?_ hdb) hc
  obtain ⟨mm, fr⟩ := I.fr
  refine PySem.W.method_of_cls fr I.ok.mod.kin T.sg (PySem.W.cls_val fr I.ok.mod.kin T.ty T.rd T.fc T.hd ?_)
  show wpAny _ _ (callWith pos (Value.ref f) [] (backTo pos (starEach (e :: es) X.env)) []) _ _ _
  refine PySem.W.callWith_K (h₀ := X.base) I.ok.mod.kin T.kp (thn (ha.run pos pins _ σ H _ (I.tok _) h) fun us s1 ⟨vs, H1, I1, r, q⟩ => ⟨I1.kIn, ?_⟩) he hpl
  exact run_fn F hr hb .nil hx I1 r q
end
/-! ### own exceptions -/
/-- LineError.__init__ -/
def spLE (K : PySem.W.Frag) : Sp := fun vs H Q _ => ∃ (a C : Addr) (w t : V), vs = [.ref a, w, t] ∧ OexC K C ∧ PySem.W.findIn K (.ref C) "word" = some none ∧ H a = some (exo a C none) ∧
  ∀ d, H d = none → d ≠ a → Q .non (upd (upd H d (exd d [(("word" : Str), w)])) a (exo a C (some d)))
/-- a class below it, its name, its field -/
def spIni (K : PySem.W.Frag) (C : Addr) (nm fld : Str) : Sp := fun vs H Q _ => ∃ (a : Addr) (i : Int), vs = [.ref a, .int i] ∧ i.natAbs.log2 < 1000 ∧ H a = some (exo a C none) ∧
  ∀ d, H d = none → d ≠ a → Q .non (upd (upd (upd H d (exd d [(("word" : Str), .str nm)])) a (exo a C (some d))) d (exd d [(fld, .int i), (("word" : Str), .str nm)]))
def XcOk (P : Program) (w : World) (K : PySem.W.Frag) (mg : Str → Option Value) (base : Heap) (k : Nat) (nm : Str) (C : Addr) (sp : Sp) : Prop :=
  ∃ (fI : Addr) (fd : FuncData) (ps : List Str), OexC K C ∧ PySem.W.findIn K (.ref C) "__init__" = some (some (.ref fI)) ∧ PySem.W.typeIn K (.ref fI) = some (.type "function") ∧ FnOk P w K mg base CX0 k fI fd ps sp ∧ Binds K fd ps [] ∧ mg nm = some (.ref C)
theorem XcOk.mono {P : Program} {w : World} {K : PySem.W.Frag} {mg : Str → Option Value} {base : Heap} {j k : Nat} {nm : Str} {C : Addr} {sp : Sp} (x : XcOk P w K mg base j nm C sp) (h : j ≤ k) : XcOk P w K mg base k nm C sp := by
  obtain ⟨fI, fd, ps, a, b, c, d, e⟩ := x
  exact ⟨fI, fd, ps, a, b, c, d.mono h, e⟩
section
variable {X : Cx} {k : Nat} {nm : Str} {C : Addr} {sp : Sp} {e : Expr} {es : List Expr} {ta : TA} {p pos : Pos}
theorem pmk_c (x : XcOk X.prog X.w X.K X.mg X.base k nm C sp) (hr : Room (k + 1) X.A) (hg : Gl X nm) (ha : PA X (e :: es) ta) (hdb : (nm == ("__debug__" : Str)) = false := by decide)
    (he : starEach (e :: es) X.env = (false, eval e X.env) :: starEach es X.env := by rfl) (hpl : (backTo pos (starEach es X.env)).any (·.1) = false := by rfl) : PMk X (.Call (.Name nm p) (e :: es) [] pos) (tMkO C sp [] ta) := by
  obtain ⟨fI, fd, ps, a, b, c, d, e1, g⟩ := x
  exact pmk_oex a b c d hr e1 .nil pass0 hg g ha hdb he hpl
end
theorem mk_inner {K : PySem.W.Frag} {C : Addr} {nm fld : Str} {i : Int} {H1 : Hp} {Q : XK} (hi : i.natAbs.log2 < 1000)
    (q : ∀ H' d, Same H1 H' → H1 d = none → H' d = some (.xd [(fld, .int i), (("word" : Str), .str nm)]) → Q (.ref C) (some d) H') :
    ([V.int i] : List V).length ≤ 1000 ∧ ∀ a, H1 a = none → spIni K C nm fld (.ref a :: ([V.int i] ++ [])) (upd H1 a (exo a C none))
      (fun v H2 => v = .non ∧ ∃ (d : Addr) (fs : List (Str × V)), H2 a = some (exo a C (some d)) ∧ H2 d = some (exd d fs) ∧ H1 d = none ∧ Q (.ref C) (some d) (upd (del H2 a) d (.xd fs))) (fun _ _ _ => False) := by
  refine ⟨by show 1 ≤ 1000; decide, fun a na => ⟨a, i, rfl, hi, upd_same, fun d nd da => ⟨rfl, d, [(fld, .int i), (("word" : Str), .str nm)], ?_, upd_same, ?_, ?_⟩⟩⟩
  · rw [upd_ne da.symm, upd_same]
  · rw [upd_ne da] at nd
    exact nd
  · rw [upd_ne da] at nd
    refine q _ d (fun b o h => ?_) nd upd_same
    have hb : b ≠ d := ne_of_none h nd
    have hba : b ≠ a := ne_of_none h na
    rw [upd_ne hb, del_ne hba, upd_ne hb, upd_ne hba, upd_ne hb, upd_ne hba]
    exact h
/-! ### defs that may let an exception out -/
def CalX (P : Program) (w : World) (K : PySem.W.Frag) (mg : Str → Option Value) (base : Heap) (k : Nat) (nm : Str) (ps : List Str) (sp : Sp) : Prop :=
  ∃ (f : Addr) (fd : FuncData), FnOk P w K mg base (L2.CX P w) k f fd ps sp ∧ mg nm = some (.ref f) ∧ PySem.W.keepIn K (.ref f) = true ∧ Binds K fd ps []
theorem CalX.mono {P : Program} {w : World} {K : PySem.W.Frag} {mg : Str → Option Value} {base : Heap} {j k : Nat} {nm : Str} {ps : List Str} {sp : Sp} (c : CalX P w K mg base j nm ps sp) (h : j ≤ k) : CalX P w K mg base k nm ps sp := by
  obtain ⟨f, fd, a, b, d, e⟩ := c
  exact ⟨f, fd, a.mono h, b, d, e⟩
section
variable {X : Cx} {k : Nat} {nm : Str} {ps : List Str} {sp : Sp} {E : XK} {e : Expr} {es : List Expr} {t : TA} {p pos : Pos}
/-- where it lets nothing out -/
theorem pe_callF (c : CalX X.prog X.w X.K X.mg X.base k nm ps sp) (hr : Room k X.A) (hg : Gl X nm) (ha : PA X (e :: es) t) (hdb : (nm == ("__debug__" : Str)) = false := by decide)
    (he : starEach (e :: es) X.env = (false, eval e X.env) :: starEach es X.env := by rfl) (hpl : (backTo pos (starEach es X.env)).any (·.1) = false := by rfl) :
    PE X (.Call (.Name nm p) (e :: es) [] pos) (tCall sp [] E0 t) := by
  obtain ⟨f, fd, a, b, d, g⟩ := c
  exact pe_call a hr hg b d g .nil passL ha hdb he hpl
/-- where what it lets out is taken -/
theorem pe_callP (c : CalX X.prog X.w X.K X.mg X.base k nm ps sp) (hr : Room k X.A) (hx : Passes (L2.CX X.prog X.w) X E) (hg : Gl X nm) (ha : PA X (e :: es) t) (hdb : (nm == ("__debug__" : Str)) = false := by decide)
    (he : starEach (e :: es) X.env = (false, eval e X.env) :: starEach es X.env := by rfl) (hpl : (backTo pos (starEach es X.env)).any (·.1) = false := by rfl) :
    PE X (.Call (.Name nm p) (e :: es) [] pos) (tCall sp [] E t) := by
  obtain ⟨f, fd, a, b, d, g⟩ := c
  exact pe_call a hr hg b d g .nil hx ha hdb he hpl
end
theorem txt_fits {z : Str} {i : Int} (hz : z.length ≤ 1000) (hi : i.natAbs.log2 < 1000) : (z ++ Str.ofString (toString i)).length ≤ sizeLine := by
  have e := PySem.int_text_length_le (k := 1000) (a := i) (by decide) hi
  rw [PySem.Str.length_append, PySem.ofString_length, PySem.sizeLine_eq]
  omega
/-! ### several clauses, each with the name n (slot i) -/
def asEnds (i : Nat) (D : Ends) : Ends := ⟨fun σ' H' => D.nx (σ'.set i none) H', D.rt, fun σ' H' => D.bk (σ'.set i none) H', fun σ' H' => D.ct (σ'.set i none) H'⟩
def wManyA (K : PySem.W.Frag) (i : Nat) (Wo : WX) (D : Ends) : List (Value × (Addr → Value → Option Addr → TS)) → WX
  | [] => Wo
  | (c, ts) :: r => fun cls d σ H => ∃ b, PySem.W.exmOne K cls c = some b ∧ (b = true → ∀ a, H a = none → ts a cls d (asEnds i D) (σ.set i (some (.ref a))) H) ∧ (b = false → wManyA K i Wo D r cls d σ H)
inductive HdsA (X : Cx) (n : Str) : List ExceptHandler → List (Value × (Addr → Value → Option Addr → TS)) → Prop
  | nil : HdsA X n [] []
  | cons {x : Str} {c : Value} {ts : Addr → Value → Option Addr → TS} {st : Stmt} {sts : List Stmt} {q1 q2 : Pos} {hs : List ExceptHandler} {l : List (Value × (Addr → Value → Option Addr → TS))} (hc : Names X x c)
      (hsu : ∀ (a : Addr) (oe : Obj) (cls : Value) (d : Option Addr) (pn : List (Addr × Obj)), Zc cls d oe → (∃ vs, oe.data = .fields vs) → PSs (X.suite a ((a, oe) :: pn)) (st :: sts) (ts a cls d)) (r : HdsA X n hs l) :
      HdsA X n (.ExceptHandler (some (.Name x q1)) (some n) (st :: sts) q2 :: hs) ((c, ts) :: l)
section
variable {X : Cx} {n : Str} {i : Nat} {bd : List Stmt} {h0 : ExceptHandler} {hs : List ExceptHandler} {l : List (Value × (Addr → Value → Option Addr → TS))} {pos : Pos} {tb : WX → TS} {Wo : WX}
theorem ps_try_manyA (hst : X.stack = X.env :: X.outer) (hfm : X.env.frame = some X.env.locals) (hnd : X.N.Nodup) (hni : X.N[i]? = some n) (hnl : X.env.kindOf n = some .local) (tk : Takes X Wo)
    (hb : ∀ (W : WX) (pn : List (Addr × Obj)) (xe : Value → Shared → Prop), Takes (X.tr pn xe) W → PassesOwn (model X.prog X.w) X.A X.env xe → PSs (X.tr pn xe) bd (tb W))
    (hh : HdsA X n (h0 :: hs) l) : PS X (.Try bd (h0 :: hs) [] [] pos) (fun D σ H => tb (wManyA X.K i Wo D l) D σ H) := by
  refine ⟨fun pins s σ H D I hw => ?_⟩
  have kk := I.ok
  have hfr2 : X.A.frames = some (X.env :: X.outer) := kk.frames.trans (congrArg some hst)
  have hlo : Loc X.env.scope n := Or.inl hnl
  refine wpAny_Try_except (wpAny_mono ((hb (wManyA X.K i Wo D l) (X.pn ++ pins) (fun e z1 => wpAny (model X.prog X.w) X.A (noteFrame e X.env) (fun _ z2 => wpAny (model X.prog X.w) X.A (setFlight e none) (fun _ z3 =>
    wpAny (model X.prog X.w) X.A (handleBy e X.env (h0 :: hs)) (SP X pins D) X.xe z3) X.xe z2) X.xe z1) (fun u z' xx => ?_) PassesOwn.looking).run [] s σ H D (I.toTry _) hw) (fun fl z1 hsp => ?_) (fun _ _ y => y))
  · obtain ⟨a, B, sI, pins', τ, G, cls, d, rfl, J', nb, up, sky, na, hos, hag, wch⟩ := xx
    have J : Inv X pins τ G sI := J'.ofTry kk
    have sky2 : Sky B (X.env :: X.outer) a (Zc cls d) X.env.locals z'.heap := hst ▸ sky
    refine Sky.land Zc.steady hfr2 hfm sky2 fun g3 fl3 up3 => ?_
    have J3 : Inv X pins τ G { z' with heap := g3 } := J.landed nb fl3.1 (up.trans up3) hos hag
    obtain ⟨o3, v3, he3, hz3, hd3⟩ := fl3.there
    have nin : a ∉ frs (X.env :: X.outer) := fun hm => by
      obtain ⟨_, o', e', hnf⟩ := fl3.2.2.1.mem hm
      rw [he3] at e'; cases e'; exact hnf _ hd3
    have nL : a ≠ X.env.locals := fun y => nin (List.mem_filterMap.mpr ⟨X.env, List.mem_cons_self, hfm.trans (congrArg some y.symm)⟩)
    have nF : a ∉ X.fs := fun hm => by
      obtain ⟨e, he, y⟩ := List.mem_filterMap.mp hm
      exact nin (List.mem_filterMap.mpr ⟨e, List.mem_cons_of_mem _ he, y⟩)
    have S3 := J3.suite he3 hd3 na nL nF
    have go : ∀ {hs' : List ExceptHandler} {l' : List (Value × (Addr → Value → Option Addr → TS))}, HdsA X n hs' l' → wManyA X.K i Wo D l' cls d τ G → wpAny (model X.prog X.w) X.A (handleBy (.ref a) X.env hs') (SP X pins D) X.xe { z' with heap := g3 } := by
      intro hs' l' hk
      induction hk with
      | nil =>
        intro wch
        obtain ⟨k1, k2, k3, oe, vs, T, oT, ts', he, hz, hd, h1, hr⟩ := id fl3
        refine wpAny_handleBy_nil ?_
        unfold PySem.passOn
        refine wpAny_bind (wpAny_field he hd h1 ?_)
        have fin : wpAny (model X.prog X.w) X.A (setFlight (.ref a) X.env.frame) (fun _ z4 => wpAny (model X.prog X.w) X.A (throw (.ref a) : Sem Flow) (SP X pins D) X.xe z4) X.xe { z' with heap := g3 } := by
          rw [hfm]
          exact HandSPX.setFlight_upZ fl3 fun h4 hh4 up4 => wpAny_throw (tk _ _ ⟨a, B, sI, pins, τ, G, cls, d, rfl, J, nb, (up.trans up3).trans up4, .inr (.inr (hst ▸ hh4)), na, hos, hag, wch⟩)
        rw [if_neg (by simp : ¬ ((Value.ref T == Value.none) = true))]
        first | exact wpAny_bind (wpAny_pure (wpAny_bind fin)) | exact wpAny_bind fin
      | @cons x c ts st sts q1 q2 hs2 l2 hc hsu r ih =>
        intro wch
        obtain ⟨b, hb1, yes, no⟩ := wch
        refine wpAny_handleBy_cons (codeAny_handlers_test ?_) (fun y => by cases y)
        have LT : PySem.W.Looks (model X.prog X.w) g3 (typeOf (.ref a)) cls := fun A Q E s k q => wpAny_typeOf_ref (k _ _ he3) (hz3.1.symm ▸ q)
        have LM := PySem.W.exm_one (M := model X.prog X.w) J3.kIn LT hb1
        have tst : ∀ {Q : Value → Shared → Prop} {E : Value → Shared → Prop}, Q c { z' with heap := g3 } → wpAny (model X.prog X.w) (X.A.mark (some (.ref a))) (eval (.Name x q1) X.env) Q E { z' with heap := g3 } := fun {Q E} y => by
          rcases hc with ⟨hg, hdb, hm | ⟨hm, hv, hnn⟩⟩
          · exact ld_glob (X := X.suite a ((a, o3) :: (X.pn ++ pins))) S3 hg hm y hdb
          · exact ld_blt (X := X.suite a ((a, o3) :: (X.pn ++ pins))) S3 hg hm hv y hnn hdb
        refine tst (LM.here ?_)
        cases b with
        | false => exact ih (no rfl)
        | true =>
          refine codeAny_handlers_suite_as (HandSPX.lands_againZ fl3 fun g4 fl4 up4 => ?_)
          have J4 : Inv X pins τ G { z' with heap := g4 } := J.landed nb fl4.1 ((up.trans up3).trans up4) hos hag
          obtain ⟨o4, v4, he4, hz4, hd4⟩ := fl4.there
          refine store_ok (X := X.suite a ((a, o4) :: (X.pn ++ pins))) (v := .ref a) (J4.suite he4 hd4 na nL nF) hnd hni hlo rfl (fun s5 S5 => ?_) (.inr hnl)
          refine wpAny_mono ((hsu a o4 cls d (X.pn ++ pins) hz4 ⟨_, hd4⟩).run [] s5 _ G _ S5 (yes rfl a na)) (fun fl z6 hsp => ?_) (fun _ _ y => y.elim)
          have over : ∀ {τ6 : L2.St} {G6 : Hp} {R : Shared → Prop}, Inv (X.suite a ((a, o4) :: (X.pn ++ pins))) [] τ6 G6 z6 → (∀ z7, Inv X pins (τ6.set i none) G6 z7 → R z7) →
              wpAny (model X.prog X.w) X.A (do bindName X.env n .none; unbindBehindTheSuite X.env n q2) (fun _ z7 => R z7) X.xe z6 := fun S6 hq => gone_ok (S6.unsuite kk) hnd hni hnl hq
          cases fl with
          | next => obtain ⟨τ6, G6, S6, q6⟩ := hsp; exact over S6 fun z7 J7 => ⟨_, _, J7, q6⟩
          | brk => obtain ⟨τ6, G6, S6, q6⟩ := hsp; exact over S6 fun z7 J7 => ⟨_, _, J7, q6⟩
          | cont => obtain ⟨τ6, G6, S6, q6⟩ := hsp; exact over S6 fun z7 J7 => ⟨_, _, J7, q6⟩
          | ret u => obtain ⟨v6, τ6, G6, S6, r6, q6⟩ := hsp; exact over S6 fun z7 J7 => ⟨_, _, _, J7, r6, q6⟩
    exact go hh wch
  · cases fl with
    | next => obtain ⟨τ, G, J', q⟩ := hsp; exact wpAny_execs_nil ⟨τ, G, J'.ofTry kk, q⟩
    | brk => obtain ⟨τ, G, J', q⟩ := hsp; exact ⟨τ, G, J'.ofTry kk, q⟩
    | cont => obtain ⟨τ, G, J', q⟩ := hsp; exact ⟨τ, G, J'.ofTry kk, q⟩
    | ret u => obtain ⟨v, τ, G, J', r, q⟩ := hsp; exact ⟨v, τ, G, J'.ofTry kk, r, q⟩
end
/-! ### what a law with lambdas knows of the heap: the bag at b, the tables T, these lists -/
/-- all that is no list stays -/
def NL (H H' : Hp) : Prop := ∀ a o, H a = some o → (∀ xs, o ≠ .lst xs) → H' a = some o
theorem tabs_nl {T : List (Addr × Str)} {H H' : Hp} (t : LamX.Tabs T H) (h : NL H H') : LamX.Tabs T H' := fun p hp => by
  obtain ⟨ps, h1, h2, h3⟩ := t p hp
  refine ⟨ps, h _ _ h1 (fun xs z => by cases z), h2, fun pos cv hc => ?_⟩
  obtain ⟨c, e1, e2⟩ := h3 pos cv hc
  exact ⟨c, e1, h _ _ e2 (fun xs z => by unfold LamX.CodeO at z; cases z)⟩
structure ST (b : Addr × Addr) (T : List (Addr × Str)) (H : Hp) (L : List (Addr × List V)) : Prop where
  bag : Bag b H
  nb : ∀ p ∈ L, p.1 ≠ b.1 ∧ p.1 ≠ b.2
  kn : ∀ p ∈ L, H p.1 = some (.lst p.2)
  tab : LamX.Tabs T H
section
variable {b : Addr × Addr} {T : List (Addr × Str)} {p : Addr} {H H' : Hp} {L L' : List (Addr × List V)} {o o' : List V}
theorem ST.same (h : ST b T H L) (s : Same H H') : ST b T H' L := ⟨h.bag.same s, h.nb, fun q hq => s _ _ (h.kn q hq), h.tab.ext s⟩
theorem ST.mv (h : ST b T H L) (m : Mv b.1 H H') (g : Bag b H') : ST b T H' L := ⟨g, h.nb, fun q hq => m _ _ (h.nb q hq).1 (h.kn q hq), tabs_nl h.tab (fun a o e n => m a o (fun z => by
  obtain ⟨_, _, _, _, _, h1, _⟩ := h.bag
  rw [z, h1] at e
  exact n _ (Option.some.inj e).symm) e)⟩
theorem ST.add (h : ST b T H L) (n : p ≠ b.1) (n2 : p ≠ b.2) (e : H p = some (.lst o)) : ST b T H ((p, o) :: L) :=
  ⟨h.bag, fun q hq => (List.mem_cons.mp hq).elim (fun z => by rw [z]; exact ⟨n, n2⟩) (h.nb q), fun q hq => (List.mem_cons.mp hq).elim (fun z => by rw [z]; exact e) (h.kn q), h.tab⟩
theorem ST.new (h : ST b T H L) (n : H p = none) : ST b T (upd H p (.lst o)) ((p, o) :: L) := (h.same (same_upd n)).add (h.bag.ne n) (h.bag.ne2 n) upd_same
theorem ST.newS (h : ST b T H L) (s : Same H H') (n : H p = none) (e : H' p = some (.lst o)) : ST b T H' ((p, o) :: L) := (h.same s).add (h.bag.ne n) (h.bag.ne2 n) e
theorem ST.newM (h : ST b T H L) (m : Mv b.1 H H') (g : Bag b H') (n : H p = none) (e : H' p = some (.lst o)) : ST b T H' ((p, o) :: L) := (h.mv m g).add (h.bag.ne n) (h.bag.ne2 n) e
theorem ST.sub (h : ST b T H L) (hs : ∀ q ∈ L', q ∈ L) : ST b T H L' := ⟨h.bag, fun q hq => h.nb q (hs q hq), fun q hq => h.kn q (hs q hq), h.tab⟩
theorem ST.get (h : ST b T H L) (hm : (p, o) ∈ L) : H p = some (.lst o) := h.kn _ hm
theorem ST.ne (h : ST b T H L) (hm : (p, o) ∈ L) : p ≠ b.1 := (h.nb _ hm).1
theorem ST.put (h : ST b T H ((p, o) :: L)) (hd : ∀ q ∈ L, q.1 ≠ p) : ST b T (upd H p (.lst o')) ((p, o') :: L) :=
  ⟨h.bag.upd (h.nb _ (.head _)).1 (h.nb _ (.head _)).2, fun q hq => (List.mem_cons.mp hq).elim (fun z => by rw [z]; exact h.nb (p, o) (.head L)) (fun hq => h.nb q (.tail _ hq)),
    fun q hq => (List.mem_cons.mp hq).elim (fun z => by rw [z]; exact upd_same) (fun hq => by rw [upd_ne (hd q hq)]; exact h.kn q (.tail _ hq)), tabs_nl h.tab (fun a u e n => by
      have e2 := h.kn (p, o) (.head _)
      rw [upd_ne (fun z => by rw [z, e2] at e; exact n _ (Option.some.inj e).symm)]
      exact e)⟩
theorem ST.apart (h : ST b T H L) (n : H p = none) : ∀ q ∈ L, q.1 ≠ p := fun q hq => ne_of_none (h.kn q hq) n
theorem ST.nil (g : Bag b H) (t : LamX.Tabs T H) : ST b T H [] := ⟨g, (fun _ h => absurd h List.not_mem_nil), (fun _ h => absurd h List.not_mem_nil), t⟩
theorem ST.extN (h : ST b T H L) (e : LamX.ExtN H H') (t : LamX.Tabs T H') : ST b T H' L := by
  refine ⟨?_, h.nb, fun q hq => e _ _ (h.kn q hq) (fun ps z => by cases z), t⟩
  obtain ⟨ns, i, r, x, c, h1, h2, h3⟩ := h.bag
  exact ⟨ns, i, r, x, c, e _ _ h1 (fun ps z => by cases z), e _ _ h2 (fun ps z => by cases z), h3⟩
end
/-! ### takes, where the slots are as many as the names -/
theorem takes_len {X : Cx} {W : WX} (tk : Takes X W) : Takes X (fun cls d σ H => σ.length = X.N.length → W cls d σ H) := fun u s' x => by
  obtain ⟨a, B, sI, pins, σ, H, cls, d, e, I, nb, up, sky, na, os, ag, w⟩ := x
  exact tk u s' ⟨a, B, sI, pins, σ, H, cls, d, e, I, nb, up, sky, na, os, ag, w I.len⟩
/-- what the law's at makes of a lambda that is refused by one of these classes -/
def TAt (cs : List (Addr × Str)) : (XK → Hp → VK → Prop) → Hp → VK → Prop := fun tl H Q =>
  tl (fun cls d H' => ∃ e ∈ cs, cls = .ref e.1 ∧ ∃ (dd : Addr) (v : V), d = some dd ∧ H' dd = some (.xd [(("at" : Str), v), (("word" : Str), .str e.2)]) ∧ ∀ p, H' p = none → Q (.ref p) (upd H' p (.lst [.str e.2, v]))) H (fun _ _ => False)
/-- a class of refusals with a place -/
structure AtC (K : PySem.W.Frag) (mg : Str → Option Value) (nm : Str) (C : Addr) : Prop where
  gC : mg nm = some (.ref C)
  xf : XfC K C
  no : PySem.W.findIn K (.ref C) "at" = some none
theorem set_get {σ : L2.St} {i : Nat} {v : Option V} (h : i < σ.length) : (σ.set i v)[i]? = some v := by
  rw [List.getElem?_set_self h]
/-! ### a law that hands lambdas to a def -/
def LamTo (X : Cx) (T : List (Addr × Str)) (nm : Str) (TT : (XK → Hp → VK → Prop) → Hp → VK → Prop) : Prop :=
  ∀ {params : Arguments} {body : Expr} {scope : Scope} {t : XK → TE} {p lpos pos : Pos} {k : Nat}, Room (k + 2) X.A → LamX.LamS X.env.scope scope → defaultsOf params X.env = ([], []) →
    (∀ (q : Str) (cl : List (Str × Addr)) (pm cv ctv : Value), bindArgs (PySem.W.kla_fn "<lambda>" q params body scope cl pm cv ctv) ⟨[], []⟩ = pure []) →
    (∀ (A : Around) (outer : List Env) (s : Shared) (H : Hp) (E : XK) (f c' : Addr), Room k (A.deeper (LamX.lamEnv X scope s.heap.objs.size f c')) → PE (LamX.lamCx X A outer s H E scope f c') body (t E)) →
    PE X (.Call (.Name nm p) [.Lambda params body scope lpos] [] pos) (LamX.tLam T TT t)
theorem okL {P : Program} {w : World} {K : PySem.W.Frag} {mg : Str → Option Value} {base : Heap} {x qual : Str} {st : Stmt} {f c : Addr} {N ps : List Str} {k : Nat} {sp : Sp} {oc : Value} {od an : Option Addr} {osl : Array (Option Value)} {kV doc pm ct : Value}
    (lk : K.lookup f = some ⟨oc, od, .func (PySem.W.fnOf x qual (defArgs st) (defBody st) (defScope st) .none kV doc pm an (.ref c) ct), osl⟩) (hcd : PySem.W.codeIn K (.ref c) qual = true) (S : FnScope N ps (defScope st)) (len : ∀ vs H Q E, sp vs H Q E → vs.length = ps.length)
    (hbody : ∀ (A : Around) (outer : List Env) (s : Shared) (H : Hp) (vs : List V) (Q : VK) (E : XK), Room k (A.deeper (envOfC qual (defScope st) s.heap.objs.size f (.ref c))) → sp vs H Q E →
      ∃ t, PSs (cxOf CX0 P w K mg base N qual (defScope st) f (.ref c) A outer s H E).nox (defBody st) t ∧ t { nx := fun _ H' => Q .non H', rt := Q } (L2.start N vs) H) :
    FnOk P w K mg base CX0 (k + 1) f (PySem.W.fnOf x qual (defArgs st) (defBody st) (defScope st) .none kV doc pm an (.ref c) ct) ps sp := by
  refine fn_of lk hcd S len fun A outer s H vs Q E hr hsp => ?_
  obtain ⟨t, h, q⟩ := hbody A outer s H vs Q E hr hsp
  exact ⟨t, h.nox, q⟩
/-! ### a class of refusals without a value -/
def spIni0 (K : PySem.W.Frag) (C : Addr) (nm : Str) : Sp := fun vs H Q _ => ∃ (a : Addr), vs = [.ref a] ∧ H a = some (exo a C none) ∧ ∀ d, H d = none → d ≠ a → Q .non (upd (upd H d (exd d [(("word" : Str), .str nm)])) a (exo a C (some d)))
section
variable {X : Cx} {k : Nat} {nm : Str} {C : Addr} {sp : Sp} {p pos : Pos}
theorem pmk_c0 (x : XcOk X.prog X.w X.K X.mg X.base k nm C sp) (hr : Room (k + 1) X.A) (hg : Gl X nm) (hdb : (nm == ("__debug__" : Str)) = false := by decide) : PMk X (.Call (.Name nm p) [] [] pos) (tMkO C sp [] tNil) := by
  obtain ⟨fI, fd, ps, T, iC, tI, F1, hb, hm⟩ := x
  intro pins s σ H Q I h
  obtain ⟨nm', q, N, bs, bm, sn, sub, ab, col, dd, k0, k1, k2, k3, k5, hC, hbm⟩ := T.cls
  refine wpAny_Call_Name_kw (ld_glob I hg hm ?_ hdb)
  refine PySem.W.callWith_K0 I.kIn T.kC ?_
  show wpAny _ _ (call (.ref C) []) _ _ _
  have q1 : ∀ a, H a = none → sp (.ref a :: ([] ++ [])) (upd H a (exo a C none)) _ _ := h.2
  obtain ⟨hp, g, dr, tk, os⟩ := s
  have hsz : hp.objs.size ≤ hp.objs.size + 1 := Nat.le_succ _
  have hq := q1 (hp.objs.size + 1) (I.hok.fresh hsz)
  have kk : ∀ b o, hp.get? b = some o → ((hp.push (PySem.W.kdv_tup [])).push (PySem.HandSPX.excO C hp.objs.size)).get? b = some o := fun b o e => Heap.get?_push_of_some _ (Heap.get?_push_of_some _ e)
  have hget : ((hp.push (PySem.W.kdv_tup [])).push (PySem.HandSPX.excO C hp.objs.size)).get? (hp.objs.size + 1) = some (PySem.HandSPX.excO C hp.objs.size) := by heap_get
  have I2 : Inv X pins σ (upd H (hp.objs.size + 1) (exo (hp.objs.size + 1) C none)) ⟨(hp.push (PySem.W.kdv_tup [])).push (PySem.HandSPX.excO C hp.objs.size), g, dr, tk, os⟩ :=
    I.laid (t' := tk) (a := hp.objs.size + 1) (o := exo (hp.objs.size + 1) C none) (h' := (hp.push (PySem.W.kdv_tup [])).push (PySem.HandSPX.excO C hp.objs.size)) kk hsz (exo_ok hget)
  have r2 : Vals [V.ref (hp.objs.size + 1)] [Value.ref (hp.objs.size + 1)] := .cons rfl .nil
  have hl : ([Value.ref (hp.objs.size + 1)] ++ []).length = ps.length := (F1.len _ _ _ _ hq)
  refine wpAny_call (PySem.HandSPX.call_own F.excBase_ValueError (fun Y => PySem.HandSPX.refsVE_contains Y bm hbm) (I.kIn _ _ hC) (PySem.W.looks_findIn I.kIn iC) (fun self => PySem.W.bind_fn I.kIn self tI) (Nat.zero_le _)
    (codeAny_mono (F1.run _ X.stack _ _ ⟨[Value.ref (hp.objs.size + 1)], []⟩ [Value.ref (hp.objs.size + 1)] _ _ (fun _ _ _ => False) (hr.make C [] []) (I2.env0.make C [] []) (hb _ [Value.ref (hp.objs.size + 1)] I2.kIn hl) r2 hq) fun r s' hq' => ?_))
  cases r with
  | error er => exact (show False from hq').elim
  | ok fl =>
    cases fl with
    | ret u =>
      obtain ⟨v, H2, os2, bare2, un2, hok2, rv, ev, d, fs, ea, ed, hd1, q2⟩ := hq'
      subst ev
      obtain ⟨h2, g2, d2, t2, os'⟩ := s'
      exact ⟨rv, mk_end (raises_own T.exC T.tyC) I hsz kk un2 hok2 os2 bare2 ea ed hd1 q2⟩
    | next => exact False.elim hq'
    | brk => exact False.elim hq'
    | cont => exact False.elim hq'
end
theorem mk_inner0 {K : PySem.W.Frag} {C : Addr} {nm : Str} {H1 : Hp} {Q : XK}
    (q : ∀ H' d, Same H1 H' → H1 d = none → H' d = some (.xd [(("word" : Str), .str nm)]) → Q (.ref C) (some d) H') :
    ([] : List V).length ≤ 1000 ∧ ∀ a, H1 a = none → spIni0 K C nm (.ref a :: (([] : List V) ++ [])) (upd H1 a (exo a C none))
      (fun v H2 => v = .non ∧ ∃ (d : Addr) (fs : List (Str × V)), H2 a = some (exo a C (some d)) ∧ H2 d = some (exd d fs) ∧ H1 d = none ∧ Q (.ref C) (some d) (upd (del H2 a) d (.xd fs))) (fun _ _ _ => False) := by
  refine ⟨Nat.zero_le _, fun a na => ⟨a, rfl, upd_same, fun d nd da => ⟨rfl, d, [(("word" : Str), .str nm)], upd_same, ?_, ?_, ?_⟩⟩⟩
  · rw [upd_ne da, upd_same]
  · rw [upd_ne da] at nd
    exact nd
  · rw [upd_ne da] at nd
    refine q _ d (fun b o h => ?_) nd upd_same
    have hb : b ≠ d := ne_of_none h nd
    have hba : b ≠ a := ne_of_none h na
    rw [upd_ne hb, del_ne hba, upd_ne hba, upd_ne hb, upd_ne hba]
    exact h
/-- what the law's tried makes of a lambda: told, or refused by the class at C, whose word it tells -/
def TTried (C : Addr) (nm : Str) : (XK → Hp → VK → Prop) → Hp → VK → Prop := fun tl H Q =>
  tl (fun cls d H' => cls = .ref C ∧ ∃ (dd : Addr) (fs : List (Str × V)), d = some dd ∧ H' dd = some (.xd fs) ∧ fs.lookup ("word" : Str) = some (.str nm) ∧ ∀ p, H' p = none → Q (.ref p) (upd H' p (.tup [.str "refused", .str nm]))) H
    (fun v H1 => ([V.str "told", v] : List V).length ≤ sizeLine ∧ ∀ p, H1 p = none → Q (.ref p) (upd H1 p (.tup [.str "told", v])))
/-! ### a def called by keywords alone -/
def gK {α : Type} (perm : List α → List α) : List α → List α → List α
  | [], ws => perm ws
  | _ :: _, _ => []
section
variable {X : Cx} {CX : CXT} {k : Nat} {f : Addr} {fd : FuncData} {ps ks : List Str} {sp : Sp} {E : XK} {x : Str} {p pos : Pos} {kws : List Keyword} {tk : TA} {g : List Value → List Value → List Value} {gV : List V → List V → List V}
theorem pe_callK0 (F : FnOk X.prog X.w X.K X.mg X.base CX k f fd ps sp) (hr : Room k X.A) (hg : Gl X x) (hm : X.mg x = some (.ref f)) (hk : PySem.W.keepIn X.K (.ref f) = true) (hb : KBinds X.K fd ps ks g gV) (hx : Passes CX X E) (hkw : PK X kws tk)
    (hall : ((backToKw pos (keywordEach kws X.env)).all fun x => x.1.isSome) = true := by rfl) (hks : (backToKw pos (keywordEach kws X.env)).filterMap (·.1) = ks := by rfl) (hdb : (x == ("__debug__" : Str)) = false := by decide)
    (hpl : ((backTo pos (starEach [] X.env)).any (·.1) || (backToKw pos (keywordEach kws X.env)).any fun x => x.1.isNone) = false := by rfl) : PE X (.Call (.Name x p) [] kws pos) (tCallK sp gV E tNil tk) := by
  refine ⟨fun pins s σ H Q I h => wpAny_Call_Name_kw (ld_glob I hg hm ?_ hdb)⟩
  refine PySem.W.callWith_KW0 (I.ok.mod.kin) hk hall (thn (hkw.run pos pins s σ H (fun zs H2 => sp (gV [] zs) H2 Q E) I h) fun ws s2 x => ?_) hpl
  obtain ⟨zs, H2, I2, rz, q2⟩ := x
  refine ⟨I2.kIn, ?_⟩
  rw [hks]
  exact run_fnk F hr hb hx I2 .nil rz q2
end
def CalK (P : Program) (w : World) (K : PySem.W.Frag) (mg : Str → Option Value) (base : Heap) (k : Nat) (nm : Str) (ps ks : List Str) (gV : List V → List V → List V) (sp : Sp) : Prop :=
  ∃ (f : Addr) (fd : FuncData) (g : List Value → List Value → List Value), FnOk P w K mg base (L2.CX P w) k f fd ps sp ∧ mg nm = some (.ref f) ∧ PySem.W.keepIn K (.ref f) = true ∧ KBinds K fd ps ks g gV
theorem CalK.mono {P : Program} {w : World} {K : PySem.W.Frag} {mg : Str → Option Value} {base : Heap} {j k : Nat} {nm : Str} {ps ks : List Str} {gV : List V → List V → List V} {sp : Sp} (c : CalK P w K mg base j nm ps ks gV sp) (h : j ≤ k) : CalK P w K mg base k nm ps ks gV sp := by
  obtain ⟨f, fd, g, a, b, d, e⟩ := c
  exact ⟨f, fd, g, a.mono h, b, d, e⟩
section
variable {X : Cx} {k : Nat} {ps ks : List Str} {sp : Sp} {nm : Str} {p pos : Pos} {kws : List Keyword} {tk : TA} {gV : List V → List V → List V}
theorem pe_callKF (c : CalK X.prog X.w X.K X.mg X.base k nm ps ks gV sp) (hr : Room k X.A) (hg : Gl X nm) (hkw : PK X kws tk)
    (hall : ((backToKw pos (keywordEach kws X.env)).all fun x => x.1.isSome) = true := by rfl) (hks : (backToKw pos (keywordEach kws X.env)).filterMap (·.1) = ks := by rfl) (hdb : (nm == ("__debug__" : Str)) = false := by decide)
    (hpl : ((backTo pos (starEach [] X.env)).any (·.1) || (backToKw pos (keywordEach kws X.env)).any fun x => x.1.isNone) = false := by rfl) : PE X (.Call (.Name nm p) [] kws pos) (tCallK sp gV E0 tNil tk) := by
  obtain ⟨f, fd, g, a, b, d, e⟩ := c
  exact pe_callK0 a hr hg b d e passL hkw hall hks hdb hpl
end
def two {α : Type} : List α → List α
  | [a, b] => [b, a]
  | _ => []
theorem kb_one {K : PySem.W.Frag} {x qual y : Str} {st : Stmt} {f : Addr} {fd : FuncData} (F : Fun K x qual st f fd) (h : ∀ (kV doc pm : Value) (an : Option Addr) (cdv ct : Value) (u : Value), bindArgs (PySem.W.fnOf x qual (defArgs st) (defBody st) (defScope st) .none kV doc pm an cdv ct) ⟨[], [(y, u)]⟩ = pure [(y, u)]) :
    KBinds K fd [y] [y] (gK id) (gK id) := by
  refine ⟨fun s us ws X hl M A E Q q => ?_, fun {vs us zs ws} r rz => ?_⟩
  · obtain ⟨oc, od, kV, doc, pm, an, cdv, ct, osl, rfl, _⟩ := F.ex
    cases us with
    | cons _ _ => exact absurd hl (by show 0 ≠ 1; decide)
    | nil =>
      match ws, hl with
      | [u], _ =>
        show wpAny M A (bindArgs _ ⟨[], [(y, u)]⟩) Q E s
        rw [h]
        exact wpAny_pure q
  · cases r with
    | nil => exact rz
    | cons _ _ => exact .nil
theorem kb_two {K : PySem.W.Frag} {x qual y z : Str} {st : Stmt} {f : Addr} {fd : FuncData} (F : Fun K x qual st f fd) (h : ∀ (kV doc pm : Value) (an : Option Addr) (cdv ct : Value) (u v : Value), bindArgs (PySem.W.fnOf x qual (defArgs st) (defBody st) (defScope st) .none kV doc pm an cdv ct) ⟨[], [(z, u), (y, v)]⟩ = pure [(y, v), (z, u)]) :
    KBinds K fd [y, z] [z, y] (gK two) (gK two) := by
  refine ⟨fun s us ws X hl M A E Q q => ?_, fun {vs us zs ws} r rz => ?_⟩
  · obtain ⟨oc, od, kV, doc, pm, an, cdv, ct, osl, rfl, _⟩ := F.ex
    cases us with
    | cons _ _ => exact absurd hl (by show 0 ≠ 2; decide)
    | nil =>
      match ws, hl, q with
      | [], hl, q => exact absurd hl (by show 0 ≠ 2; decide)
      | [_], hl, q => exact absurd hl (by show 0 ≠ 2; decide)
      | [u, v], _, q =>
        show wpAny M A (bindArgs _ ⟨[], [(z, u), (y, v)]⟩) Q E s
        rw [h]
        exact wpAny_pure q
      | _ :: _ :: _ :: _, hl, q => exact absurd hl (by show 0 ≠ 2; decide)
  · cases r with
    | cons _ _ => exact .nil
    | nil =>
      cases rz with
      | nil => exact .nil
      | cons a r => cases r with
        | nil => exact .nil
        | cons b r => cases r with
          | nil => exact .cons b (.cons a .nil)
          | cons _ _ => exact .nil
/-- what the law's most makes of a lambda that is refused by the class at C -/
def TMost (C : Addr) (nm : Str) : (XK → Hp → VK → Prop) → Hp → VK → Prop := fun tl H Q =>
  tl (fun cls d H' => cls = .ref C ∧ ∃ (dd : Addr) (v : V), d = some dd ∧ H' dd = some (.xd [(("most" : Str), v), (("word" : Str), .str nm)]) ∧ ∀ p, H' p = none → Q (.ref p) (upd H' p (.lst [.str nm, v]))) H (fun _ _ => False)
end WB
namespace WB
open PySem PySem.Spec PyProof.Rows L2
/-! ### lambdas that are kept in a list -/
abbrev lamO (X : Cx) (params : Arguments) (body : Expr) (scope : Scope) (pm : Value) (c' : Addr) (ctv : Value) : Obj := PySem.W.kla_obj "<lambda>" (X.env.qual ++ "<lambda>") params body scope (cloFrom X.env.cells scope.names []) pm c' ctv
section
variable {X : Cx} {pins : List (Addr × Obj)} {σ : L2.St} {H : Hp} {s : Shared}
theorem inv_pin (I : Inv X pins σ H s) (hst : X.stack = X.env :: X.outer) (hfm : X.env.frame = some X.env.locals) {f : Addr} {o : Obj} (hf : s.heap.get? f = some o) (hn : H f = none) (hfr : f ∉ frs X.stack) (hd : ∀ v, o.data ≠ .cell v) : Inv X (pins ++ [(f, o)]) σ H s := by
  have nL : f ≠ X.env.locals := fun y => hfr (List.mem_filterMap.mpr ⟨X.env, by rw [hst]; exact List.mem_cons_self, hfm.trans (congrArg some y.symm)⟩)
  have nF : f ∉ X.fs := fun hm => by
    obtain ⟨e, he, y⟩ := List.mem_filterMap.mp hm
    exact hfr (List.mem_filterMap.mpr ⟨e, by rw [hst]; exact List.mem_cons_of_mem _ he, y⟩)
  refine { I with pin := fun p hp => ?_ }
  rcases List.mem_append.mp hp with h | h
  · exact I.pin p (List.mem_append_left _ h)
  rcases List.mem_append.mp h with h | h
  · exact I.pin p (List.mem_append_right _ h)
  · rw [List.mem_singleton.mp h]
    exact ⟨hf, hn, nL, nF, hd⟩
theorem inv_unpin {l : List (Addr × Obj)} (I : Inv X (pins ++ l) σ H s) : Inv X pins σ H s := by
  refine { I with pin := fun p hp => I.pin p ?_ }
  rcases List.mem_append.mp hp with h | h
  · exact List.mem_append_left _ h
  · exact List.mem_append_right _ (List.mem_append_left _ h)
end
section
variable {X : Cx} {T : List (Addr × Str)} {c P : Addr} {params : Arguments} {body : Expr} {scope : Scope} {lpos lp py pos : Pos} {y : Str} {i : Nat} {rest : List Stmt} {u : Addr → Addr → TS}
theorem sp_back {X : Cx} {pins l : List (Addr × Obj)} {D : Ends} {fl : Flow} {s : Shared} (kk : Cx.Ok X) (h : SP (X.tr (X.pn ++ (pins ++ l)) X.xe) [] D fl s) : SP X pins D fl s := by
  cases fl with
  | next => obtain ⟨τ, G, J, q⟩ := h; exact ⟨τ, G, inv_unpin (J.ofTry kk), q⟩
  | brk => obtain ⟨τ, G, J, q⟩ := h; exact ⟨τ, G, inv_unpin (J.ofTry kk), q⟩
  | cont => obtain ⟨τ, G, J, q⟩ := h; exact ⟨τ, G, inv_unpin (J.ofTry kk), q⟩
  | ret u => obtain ⟨v, τ, G, J, r, q⟩ := h; exact ⟨v, τ, G, inv_unpin (J.ofTry kk), r, q⟩
/-- xs = [lambda: e] -/
theorem pss_lamset {q : Str} (hq : X.env.qual ++ "<lambda>" = q) (hst : X.stack = X.env :: X.outer) (hfm : X.env.frame = some X.env.locals) (hN : X.N.Nodup) (hi : X.N[i]? = some y) (hy : Loc X.env.scope y) (TB : LamX.TabB X.base X.mg c P) (hcode : X.env.code = .ref c) (hmT : (P, X.env.qual ++ "<lambda>") ∈ T)
    (hu : ∀ p ∈ T, p.1 = P → p.2 = X.env.qual ++ "<lambda>") (L : LamX.LamS X.env.scope scope) (hdef : defaultsOf params X.env = ([], []))
    (hrest : ∀ (f c' : Addr) (pm ctv : Value) (pn' : List (Addr × Obj)), f ∉ frs X.stack → (f, lamO X params body scope pm c' ctv) ∈ pn' → (∀ p ∈ X.pn, p ∈ pn') → PSs (X.tr pn' X.xe) rest (u f c'))
    (hs : swapsWith (.List [.Lambda params body scope lpos] lp) (some (.Name y py)) pos.line X.env = pure false := by rfl) (hl : X.fn y = true ∨ X.env.scope.names.lookup y = some .local := by first | exact .inr rfl | exact .inl rfl) :
    PSs X (.Assign [.Name y py] (.List [.Lambda params body scope lpos] lp) pos :: rest)
      (fun D σ H => LamX.Tabs T H ∧ ∀ (f c' : Addr) (H1 : Hp), LamX.ExtN H H1 → LamX.Tabs T H1 → H1 f = none → H1 c' = some (LamX.CodeO c' q) → ∀ p, H1 p = none → u f c' D (σ.set i (some (.ref p))) (upd H1 p (.lst [.ref f]))) := by
  refine ⟨fun pins s σ H D I h => ?_⟩
  subst hq
  obtain ⟨hT, h⟩ := h
  have kk := I.ok
  refine wpAny_execs_cons (wpAny_Assign_Name (wpAny_List_spliced ?_) hs)
  show wpAny _ _ (spliced [(false, _)]) _ _ _
  refine Calls.spliced_cons (LamX.lam_make2 I TB hcode hmT hu hT hdef (L.has I.ok) fun f c' pm ctv H1 s' I1 eN T1 hf hfn hfr hco => Calls.spliced_nil ⟨(by show 1 ≤ sizeLine; decide), ?_⟩)
  have I2 := inv_pin I1 hst hfm hf hfn hfr (fun v z => by cases z)
  have hfresh := I2.hok.fresh (Nat.le_refl s'.heap.objs.size)
  have I3 : Inv X (pins ++ [(f, lamO X params body scope pm c' ctv)]) σ (upd H1 s'.heap.objs.size (.lst [.ref f])) { s' with heap := s'.heap.push { cls := .type "list", data := .seq (List.toArray [Value.ref f]) } } :=
    I2.laid (t' := s'.toks) (fun b w e => Heap.get?_push_of_some _ e) (Nat.le_refl _) ⟨(by show 1 ≤ sizeLine; decide), [Value.ref f], 0, .cons rfl .nil, Heap.get?_push_size s'.heap rfl⟩
  refine store_ok (v := .ref s'.heap.objs.size) I3 hN hi hy rfl (fun s2 I4 => ?_) hl
  have kr := (hrest f c' pm ctv (X.pn ++ (pins ++ [(f, lamO X params body scope pm c' ctv)])) hfr (List.mem_append_right _ (List.mem_append_right _ (.head _))) (fun p hp => List.mem_append_left _ hp)).run [] s2 _ _ D (I4.toTry X.xe) (h f c' H1 eN T1 hfn hco _ hfresh)
  exact wpAny_mono kr (fun fl z hsp => sp_back kk hsp) (fun _ _ y => y)
variable {p1 p2 p3 p4 : Pos}
/-- xs.append(lambda: e) -/
theorem pss_lamapp {q : Str} (hq : X.env.qual ++ "<lambda>" = q) (hst : X.stack = X.env :: X.outer) (hfm : X.env.frame = some X.env.locals) (hv : PE X (.Name y p1) (tVar i)) (TB : LamX.TabB X.base X.mg c P) (hcode : X.env.code = .ref c) (hmT : (P, X.env.qual ++ "<lambda>") ∈ T)
    (hu : ∀ p ∈ T, p.1 = P → p.2 = X.env.qual ++ "<lambda>") (L : LamX.LamS X.env.scope scope) (hdef : defaultsOf params X.env = ([], []))
    (hrest : ∀ (f c' : Addr) (pm ctv : Value) (pn' : List (Addr × Obj)), f ∉ frs X.stack → (f, lamO X params body scope pm c' ctv) ∈ pn' → (∀ p ∈ X.pn, p ∈ pn') → PSs (X.tr pn' X.xe) rest (u f c'))
    (hbase : attributeBase (.Name y p1) "append" X.env (eval (.Name y p1) X.env) = eval (.Name y p1) X.env := by rfl) (hline : (p2.endLine == p3.line) = true := by rfl)
    (hs : swapsWith (.Call (.Attribute (.Name y p1) "append" p2) [.Lambda params body scope lpos] [] p3) none p4.line X.env = pure false := by rfl) :
    PSs X (.Expr (.Call (.Attribute (.Name y p1) "append" p2) [.Lambda params body scope lpos] [] p3) p4 :: rest)
      (fun D σ H => LamX.Tabs T H ∧ ∃ p xs, σ[i]? = some (some (.ref p)) ∧ H p = some (.lst xs) ∧ xs.length < sizeLine ∧ ∀ (f c' : Addr) (H1 : Hp), LamX.ExtN H H1 → LamX.Tabs T H1 → H1 f = none → H1 c' = some (LamX.CodeO c' q) → u f c' D σ (upd H1 p (.lst (xs ++ [.ref f])))) := by
  refine ⟨fun pins s σ H D I h => ?_⟩
  subst hq
  obtain ⟨hT, p, xs, hσ, hp, hz, h⟩ := h
  have kk := I.ok
  refine wpAny_execs_cons (wpAny_Expr_any ?_ I.quiet hs)
  refine wpAny_Call_method_late (trees := [(false, _)]) hbase (by rfl) hline rfl (thn (hv.run pins s σ H (fun x H1 => x = .ref p ∧ H1 = H) I ⟨_, hσ, rfl, rfl⟩) fun v s1 x => ?_)
  obtain ⟨x, H1, I1, r1, rfl, rfl⟩ := x
  obtain ⟨h1, h2⟩ := tyV_is (T := "list") I1 r1 (.inl ⟨rfl, xs, SqL.of hp⟩)
  refine ⟨"list", "list.append", PySem.F.plainAttrs_list, PySem.F.slot_list_append, PySem.F.type_list_append, h1, h2, ?_⟩
  refine Calls.callWith_builtin (by rfl) (Calls.evalArgs_plain ?_)
  refine Calls.spliced_cons (LamX.lam_make2 I1 TB hcode hmT hu hT hdef (L.has I1.ok) fun f c' pm ctv H2 s' I2 eN T2 hf hfn hfr hco => Calls.spliced_nil ?_)
  have I3 := inv_pin I2 hst hfm hf hfn hfr (fun v z => by cases z)
  have hp2 := eN _ _ hp (fun ps z => by cases z)
  refine thn (mt_append (X := X) (pins ++ [(f, lamO X params body scope pm c' ctv)]) s' σ H2 (.ref p) [.ref f] v [Value.ref f] (fun v H' => H' = upd H2 p (.lst (xs ++ [.ref f]))) I3 r1 (.cons rfl .nil) ⟨p, xs, .ref f, rfl, rfl, hp2, hz, rfl⟩) fun w s2 x => ?_
  obtain ⟨w', H', I4, r4, rfl⟩ := x
  have kr := (hrest f c' pm ctv (X.pn ++ (pins ++ [(f, lamO X params body scope pm c' ctv)])) hfr (List.mem_append_right _ (List.mem_append_right _ (.head _))) (fun p hp => List.mem_append_left _ hp)).run [] s2 _ _ D (I4.toTry X.xe) (h f c' H2 eN T2 hfn hco)
  exact wpAny_mono kr (fun fl z hsp => sp_back kk hsp) (fun _ _ y => y)
end
section
variable {X : Cx} {TT : (XK → Hp → VK → Prop) → Hp → VK → Prop} {x a : Str} {g f c' : Addr} {k : Nat} {pg : Arguments} {bg : List Stmt} {sg : Scope} {dV kV doc pm cdv ct oc pm' ctv : Value} {an od : Option Addr} {osl : Array (Option Value)} {Ng : List Str}
  {params : Arguments} {body ea : Expr} {scope : Scope} {t : XK → TE} {p pos : Pos} {j : Nat}
/-- g(x), where x is a lambda that was kept -/
theorem pe_actname {q : Str} (hq : X.env.qual ++ "<lambda>" = q) (hpin : (f, lamO X params body scope pm' c' ctv) ∈ X.pn) (hfr : f ∉ frs X.stack) (hg : Gl X x) (hm : X.mg x = some (.ref g)) (hk : PySem.W.keepIn X.K (.ref g) = true) (lk : X.K.lookup g = some ⟨oc, od, .func (PySem.W.fnOf x x pg bg sg dV kV doc pm an cdv ct), osl⟩)
    (hcg : PySem.W.codeIn X.K cdv x = true) (hb : L2.Binds X.K (PySem.W.fnOf x x pg bg sg dV kV doc pm an cdv ct) [a] []) (Sg : FnScope Ng [a] sg) (hNg : Ng[0]? = some a) (hva : Vis sg a) (hG : LamX.GivesTo X Ng x sg g cdv bg a (X.env.qual ++ "<lambda>") TT)
    (hr : Room (k + 2) X.A) (L : LamX.LamS X.env.scope scope) (hbind : ∀ (q : Str) (cl : List (Str × Addr)) (pm cv ctv : Value), bindArgs (PySem.W.kla_fn "<lambda>" q params body scope cl pm cv ctv) ⟨[], []⟩ = pure [])
    (hbody : ∀ (A : Around) (outer : List Env) (s : Shared) (H : Hp) (E : XK) (f c' : Addr), Room k (A.deeper (LamX.lamEnv X scope s.heap.objs.size f c')) → PE (LamX.lamCx X A outer s H E scope f c') body (t E)) (ha : PE X ea (tVar j))
    (hdb : (x == ("__debug__" : Str)) = false := by decide) (hd : (a == ("__debug__" : Str)) = false := by decide) (hcd : (a == ("__classdict__" : Str)) = false := by decide)
    (he : starEach [ea] X.env = (false, eval ea X.env) :: starEach [] X.env := by rfl) (hpl : (backTo pos (starEach [] X.env)).any (·.1) = false := by rfl) :
    PE X (.Call (.Name x p) [ea] [] pos) (fun σ H Q => σ[j]? = some (some (.ref f)) ∧ H c' = some (LamX.CodeO c' q) ∧ TT (fun E H' Q' => t E σ H' Q') H Q) := by
  refine ⟨fun pins s σ H Q I h => wpAny_Call_Name_kw (ld_glob I hg hm (PySem.W.callWith_K I.ok.mod.kin hk ?_ he hpl) hdb)⟩
  subst hq
  obtain ⟨hσ, hco, hT⟩ := h
  refine thn ((pa_cons ha pa_nil he).run pos pins s σ H (fun vs H1 => vs = [.ref f] ∧ H1 = H) I ⟨_, hσ, rfl, rfl⟩) fun us s1 y => ?_
  obtain ⟨vs, H1, I1, r1, rfl, rfl⟩ := y
  obtain ⟨w, rfl, rw_⟩ := r1.one
  have rw2 : w = Value.ref f := rw_
  subst rw2
  refine ⟨I1.kIn, ?_⟩
  obtain ⟨hf, hfn, _⟩ := I1.pin _ (List.mem_append_left _ hpin)
  have rc := LamX.run_ofS (CX := C8.CX0) (E := C8.E0) (Q := Q) lk hcg Sg hr I1.env0 (hb s1 [Value.ref f] I1.kIn rfl) (show Vals [V.ref f] [Value.ref f] from .cons rfl .nil) rfl (fun hr' => by
    obtain ⟨t', ht', hq'⟩ := hG f c' s1 H1 Q (fun E H' Q' => t E σ H' Q') (fun W pn xe E p1 p2 tk hW => LamX.pe_act I1 L hf hfn hfr (hbind _ _ _ _ _) tk hW hr' (fun A outer s H hr2 => hbody A outer s H E f c' hr2) hNg hva hd hcd) hco hT
    exact ⟨t', ht'.nox, hq'⟩)
  refine wpAny_call (codeAny_mono rc fun r s2 hq => ?_)
  cases r with
  | error e => exact (show False from hq).elim
  | ok fl =>
    cases fl with
    | next => exact (show False from hq).elim
    | brk => exact (show False from hq).elim
    | cont => exact (show False from hq).elim
    | ret u => exact I1.after hq
theorem pe_or2 {X : Cx} {e : Expr} {t u : TE} (h1 : PE X e t) (h2 : PE X e u) : PE X e (fun σ H Q => t σ H Q ∨ u σ H Q) := ⟨fun pins s σ H Q I h => h.elim (fun h => h1.run pins s σ H Q I h) (fun h => h2.run pins s σ H Q I h)⟩
end
end WB
namespace WB
open PySem PySem.Spec PyProof.Rows L2
/-! ### objects: fields, methods, new ones -/
section
variable {X : Cx} (K : PySem.W.Frag) {e o value : Expr} {f : Str} {pos pos' tpos : Pos} {ta tv : TE} {op : Operator} {rd : V → V → Hp → VK → Prop}
theorem pe_fldK (h : X.K = K) (he : PE X e ta) (hb : attributeBase e f X.env (eval e X.env) = eval e X.env := by rfl) : PE X (.Attribute e f pos) (tFld K ta f) := by subst h; exact pe_fld he hb
theorem ps_fldK (h : X.K = K) (ho : PE X o ta) (hv : PE X value tv) (hs : swapsWith value (some (.Attribute o f pos')) pos.line X.env = pure false := by rfl) : PS X (.Assign [.Attribute o f pos'] value pos) (sFld K ta tv f) := by subst h; exact ps_fld ho hv hs
theorem ps_fldaugK (h : X.K = K) (ho : PE X o ta) (hv : PE X value tv) (hop : InOp X op rd) : PS X (.AugAssign (.Attribute o f tpos) op value pos) (sFldAug K ta tv rd f) := by subst h; exact ps_fldaug ho hv hop
def rTupK (K : PySem.W.Frag) : List V → Hp → VK → Prop := fun xs H Q => ∃ p ys, xs = [.ref p] ∧ ((SqL K H p ys ∧ ∀ l, H l = none → Q (.ref l) (upd H l (.tup ys))) ∨ (SqT K H p ys ∧ Q (.ref p) H))
theorem call_tupleK (h : X.K = K) : CallR X (.type "tuple") (rTupK K) := by subst h; exact call_tuple_of
end
/-- a method of the class at C -/
def CalM (CX : CXT) (P : Program) (w : World) (K : PySem.W.Frag) (mg : Str → Option Value) (base : Heap) (k : Nat) (C : Addr) (m : Str) (ps : List Str) (sp : Sp) : Prop :=
  ∃ (f : Addr) (fd : FuncData), Cls K C ∧ Meth K C m f ∧ FnOk P w K mg base CX k f fd ps sp ∧ Binds K fd ps []
theorem CalM.mono {CX : CXT} {P : Program} {w : World} {K : PySem.W.Frag} {mg : Str → Option Value} {base : Heap} {j k : Nat} {C : Addr} {m : Str} {ps : List Str} {sp : Sp} (c : CalM CX P w K mg base j C m ps sp) (h : j ≤ k) : CalM CX P w K mg base k C m ps sp := by
  obtain ⟨f, fd, a, b, d, e⟩ := c
  exact ⟨f, fd, a, b, d.mono h, e⟩
/-- new things of the class at C -/
def CalN (P : Program) (w : World) (K : PySem.W.Frag) (mg : Str → Option Value) (base : Heap) (k : Nat) (nm : Str) (C : Addr) (ps : List Str) (sp : Sp) : Prop :=
  ∃ (f : Addr) (fd : FuncData), Mk K C f ∧ FnOk P w K mg base CX0 k f fd ps sp ∧ mg nm = some (.ref C) ∧ Binds K fd ps []
theorem CalN.mono {P : Program} {w : World} {K : PySem.W.Frag} {mg : Str → Option Value} {base : Heap} {j k : Nat} {nm : Str} {C : Addr} {ps : List Str} {sp : Sp} (c : CalN P w K mg base j nm C ps sp) (h : j ≤ k) : CalN P w K mg base k nm C ps sp := by
  obtain ⟨f, fd, a, b, d, e⟩ := c
  exact ⟨f, fd, a, b.mono h, d, e⟩
section
variable {X : Cx} {k : Nat} {C : Addr} {m nm : Str} {ps : List Str} {sp : Sp} {E : XK} {pos apos p : Pos} {e o : Expr} {es : List Expr} {ta : TE} {t : TA} {pl : Sem Bool}
theorem pe_methC (ho : PE X o ta) (c : CalM CX0 X.prog X.w X.K X.mg X.base k C m ps sp) (hr : Room k X.A) (ha : PA X (e :: es) t) (hs : starEach (e :: es) X.env = (false, eval e X.env) :: starEach es X.env := by rfl) (hpl : (backTo pos (starEach es X.env)).any (·.1) = false := by rfl)
    (hc : eval (.Call (.Attribute o m apos) (e :: es) [] pos) X.env = (do
      let ov ← eval o X.env
      standAt apos.atName
      let (f, first) ← holding [ov] (getMethod ov m pl)
      callWith pos f first (backTo pos (starEach (e :: es) X.env)) (backToKw pos (keywordEach [] X.env))) := by rfl) : PE X (.Call (.Attribute o m apos) (e :: es) [] pos) (tMeth C m sp [] E0 ta t) := by
  obtain ⟨f, fd, a, b, d, g⟩ := c
  exact pe_meth ho a b d hr g .nil pass0 ha hs hpl hc
theorem pe_methC0 (ho : PE X o ta) (c : CalM CX0 X.prog X.w X.K X.mg X.base k C m ps sp) (hr : Room k X.A)
    (hc : eval (.Call (.Attribute o m apos) [] [] pos) X.env = (do
      let ov ← eval o X.env
      standAt apos.atName
      let (f, first) ← holding [ov] (getMethod ov m pl)
      callWith pos f first (backTo pos (starEach [] X.env)) (backToKw pos (keywordEach [] X.env))) := by rfl) : PE X (.Call (.Attribute o m apos) [] [] pos) (tMeth C m sp [] E0 ta tNil) := by
  obtain ⟨f, fd, a, b, d, g⟩ := c
  exact pe_meth0 ho a b d hr g .nil pass0 hc
/-- a method that may let an exception out, where it lets out none -/
theorem pe_methF (ho : PE X o ta) (c : CalM (L2.CX X.prog X.w) X.prog X.w X.K X.mg X.base k C m ps sp) (hr : Room k X.A) (ha : PA X (e :: es) t) (hs : starEach (e :: es) X.env = (false, eval e X.env) :: starEach es X.env := by rfl) (hpl : (backTo pos (starEach es X.env)).any (·.1) = false := by rfl)
    (hc : eval (.Call (.Attribute o m apos) (e :: es) [] pos) X.env = (do
      let ov ← eval o X.env
      standAt apos.atName
      let (f, first) ← holding [ov] (getMethod ov m pl)
      callWith pos f first (backTo pos (starEach (e :: es) X.env)) (backToKw pos (keywordEach [] X.env))) := by rfl) : PE X (.Call (.Attribute o m apos) (e :: es) [] pos) (tMeth C m sp [] E0 ta t) := by
  obtain ⟨f, fd, a, b, d, g⟩ := c
  exact pe_meth ho a b d hr g .nil passL ha hs hpl hc
theorem pe_methP (ho : PE X o ta) (c : CalM (L2.CX X.prog X.w) X.prog X.w X.K X.mg X.base k C m ps sp) (hr : Room k X.A) (hx : Passes (L2.CX X.prog X.w) X E) (ha : PA X (e :: es) t) (hs : starEach (e :: es) X.env = (false, eval e X.env) :: starEach es X.env := by rfl) (hpl : (backTo pos (starEach es X.env)).any (·.1) = false := by rfl)
    (hc : eval (.Call (.Attribute o m apos) (e :: es) [] pos) X.env = (do
      let ov ← eval o X.env
      standAt apos.atName
      let (f, first) ← holding [ov] (getMethod ov m pl)
      callWith pos f first (backTo pos (starEach (e :: es) X.env)) (backToKw pos (keywordEach [] X.env))) := by rfl) : PE X (.Call (.Attribute o m apos) (e :: es) [] pos) (tMeth C m sp [] E ta t) := by
  obtain ⟨f, fd, a, b, d, g⟩ := c
  exact pe_meth ho a b d hr g .nil hx ha hs hpl hc
theorem pe_makeC0 (c : CalN X.prog X.w X.K X.mg X.base k nm C ps sp) (hr : Room (k + 1) X.A) (hg : Gl X nm) (hdb : (nm == ("__debug__" : Str)) = false := by decide) : PE X (.Call (.Name nm p) [] [] pos) (tMake C sp [] E0 tNil) := by
  obtain ⟨f, fd, a, b, d, g⟩ := c
  exact pe_make0 a b hr hg d g .nil pass0 hdb
end
/-! ### heaps that keep their lists -/
/-- lists, tuples and what is held still stay -/
def Lk (H H' : Hp) : Prop := ∀ a o, H a = some o → (∃ xs, o = .lst xs) ∨ (∃ xs, o = .tup xs) ∨ (∃ u v, o = .frz u v) → H' a = some o
section
variable {K : PySem.W.Frag}
theorem lk_l {H H' : Hp} {a : Addr} {xs : List V} (e : Lk H H') (h : SqL K H a xs) : SqL K H' a xs := by
  rcases h with (h | ⟨o, h⟩) | h
  · exact .inl (.inl (e _ _ h (.inl ⟨_, rfl⟩)))
  · exact .inl (.inr ⟨o, e _ _ h (.inr (.inr ⟨_, _, rfl⟩))⟩)
  · exact .inr h
theorem lk_t {H H' : Hp} {a : Addr} {xs : List V} (e : Lk H H') (h : SqT K H a xs) : SqT K H' a xs := by
  rcases h with (h | ⟨o, h⟩) | h
  · exact .inl (.inl (e _ _ h (.inr (.inl ⟨_, rfl⟩))))
  · exact .inl (.inr ⟨o, e _ _ h (.inr (.inr ⟨_, _, rfl⟩))⟩)
  · exact .inr h
mutual
theorem dp_lk {H H' : Hp} (e : Lk H H') : ∀ {d : PyData} {x : V}, Dp K H x d → Dp K H' x d
  | _, _, .non => .non
  | _, _, .bl b => .bl b
  | _, _, .int i => .int i
  | _, _, .str s => .str s
  | _, _, .lst hs ha => .lst (lk_l e hs) (dpa_lk e ha)
  | _, _, .tup hs ha => .tup (lk_t e hs) (dpa_lk e ha)
theorem dpa_lk {H H' : Hp} (e : Lk H H') : ∀ {ds : List PyData} {xs : List V}, DpAll K H xs ds → DpAll K H' xs ds
  | _, _, .nil => .nil
  | _, _, .cons h t => .cons (dp_lk e h) (dpa_lk e t)
end
theorem lk_mv {b : Addr} {H H' : Hp} (m : Mv b H H') (h : ∀ o, H b = some o → ¬ ((∃ xs, o = .lst xs) ∨ (∃ xs, o = .tup xs) ∨ (∃ u v, o = .frz u v))) : Lk H H' := fun a o e k => m a o (fun z => by subst z; exact h o e k) e
theorem lk_same {H H' : Hp} (s : Same H H') : Lk H H' := fun a o e _ => s a o e
end
end WB
namespace WB
open PySem PySem.Spec PyProof.Rows L2
/-! ### things that stand apart in the heap -/
/-- all but what stands at F stays, and nothing vanishes -/
structure MvF (F : List Addr) (H H' : Hp) : Prop where
  kp : ∀ a o, a ∉ F → H a = some o → H' a = some o
  al : ∀ a, H' a = none → H a = none
theorem al_same {H H' : Hp} (s : Same H H') : ∀ a, H' a = none → H a = none := fun _ h => s.free h
theorem al_upd {H H' : Hp} {p : Addr} {o : HO} (s : ∀ a, H' a = none → H a = none) : ∀ a, upd H' p o a = none → H a = none := fun a h => by
  by_cases z : a = p
  · rw [z, upd_same] at h
    cases h
  · rw [upd_ne z] at h
    exact s a h
theorem al_mv {H H' : Hp} {p : Addr} {o : HO} (m : Mv p H H') (e : H' p = some o) : ∀ a, H' a = none → H a = none := fun a h => by
  by_cases z : a = p
  · rw [z, e] at h
    cases h
  · exact m.none z h
section
variable {F : List Addr} {H H' H1 H2 : Hp}
theorem MvF.refl (F : List Addr) (H : Hp) : MvF F H H := ⟨fun _ _ _ h => h, fun _ h => h⟩
theorem MvF.of (s : Same H H') : MvF F H H' := ⟨fun a o _ h => s a o h, al_same s⟩
theorem MvF.mv {p : Addr} {o : HO} (m : Mv p H H') (e : H' p = some o) (hp : p ∈ F) : MvF F H H' := ⟨fun a u n h => m a u (fun z => n (z ▸ hp)) h, al_mv m e⟩
theorem MvF.trans (m : MvF F H H1) (m' : MvF F H1 H2) : MvF F H H2 := ⟨fun a o n h => m'.kp a o n (m.kp a o n h), fun a h => m.al a (m'.al a h)⟩
theorem MvF.upd {p : Addr} {o : HO} (m : MvF F H H') (hp : p ∈ F) : MvF F H (L2.upd H' p o) := ⟨fun a u n h => by rw [upd_ne (fun z : a = p => n (by rw [z]; exact hp))]; exact m.kp a u n h, al_upd m.al⟩
theorem MvF.wide {G : List Addr} (m : MvF F H H') (h : ∀ a ∈ F, a ∈ G) : MvF G H H' := ⟨fun a o n e => m.kp a o (fun z => n (h a z)) e, m.al⟩
/-- where the second one's places are the first one's, or new -/
theorem MvF.trans2 {G : List Addr} (m : MvF F H H1) (m' : MvF G H1 H2) (hg : ∀ a ∈ G, a ∈ F ∨ H a = none) : MvF F H H2 := by
  refine ⟨fun a o n e => m'.kp a o (fun z => ?_) (m.kp a o n e), fun a h => m.al a (m'.al a h)⟩
  rcases hg a z with y | y
  · exact n y
  · rw [y] at e
    cases e
theorem MvF.same (m : MvF F H H') (s : Same H' H1) : MvF F H H1 := m.trans (.of s)
theorem MvF.new (m : MvF F H H') {p : Addr} {o : HO} (n : H' p = none) : MvF F H (L2.upd H' p o) := m.same (same_upd n)
theorem MvF.free (m : MvF F H H') {p : Addr} (h : H' p = none) : H p = none := m.al p h
theorem MvF.toSame (m : MvF [] H H') : Same H H' := fun a o h => m.kp a o List.not_mem_nil h
end
/-- no table of code, no thing of the machine's own -/
def plain : HO → Prop
  | .tbl _ => False
  | .ext _ => False
  | _ => True
structure Th where
  ft : List Addr
  P : Hp → Prop
  loc : ∀ H H' : Hp, (∀ a ∈ ft, ∀ o, H a = some o → H' a = some o) → P H → P H'
  al : ∀ H, P H → ∀ a ∈ ft, ∃ o, H a = some o ∧ plain o
/-- these things stand apart, and the tables of code are as they were -/
structure Hs (T : List (Addr × Str)) (Ts : List Th) (H : Hp) : Prop where
  all : ∀ (i : Nat) (T : Th), Ts[i]? = some T → T.P H
  sep : ∀ (i j : Nat) (x y : Th), i ≠ j → Ts[i]? = some x → Ts[j]? = some y → ∀ a ∈ x.ft, a ∉ y.ft
  tab : LamX.Tabs T H
theorem Th.live (T : Th) {H : Hp} (h : T.P H) {a : Addr} (ha : a ∈ T.ft) : H a ≠ none := by
  obtain ⟨o, e, _⟩ := T.al H h a ha
  rw [e]
  exact fun z => nomatch z
theorem tabs_keep {T : List (Addr × Str)} {H H' : Hp} (t : LamX.Tabs T H) (h : ∀ a o, H a = some o → ¬ plain o → H' a = some o) : LamX.Tabs T H' := fun p hp => by
  obtain ⟨ps, h1, h2, h3⟩ := t p hp
  refine ⟨ps, h _ _ h1 (fun z => z), h2, fun pos cv hc => ?_⟩
  obtain ⟨c, e1, e2⟩ := h3 pos cv hc
  exact ⟨c, e1, h _ _ e2 (fun z => z)⟩
section
variable {T0 : List (Addr × Str)} {Ts Ts' : List Th} {T T' N : Th} {H H' : Hp}
theorem Hs.nil (t : LamX.Tabs T0 H) : Hs T0 [] H := ⟨fun i T h => (by cases h), fun i j x y _ h => (by cases h), t⟩
theorem Hs.nil0 : Hs [] [] H := .nil (fun p hp => absurd hp List.not_mem_nil)
theorem Hs.get (h : Hs T0 Ts H) (i : Nat) (hi : Ts[i]? = some T) : T.P H := h.all i T hi
theorem Hs.same (h : Hs T0 Ts H) (s : Same H H') : Hs T0 Ts H' := ⟨fun i T hi => T.loc H H' (fun a _ o e => s a o e) (h.all i T hi), h.sep, h.tab.ext s⟩
/-- a lambda was made -/
theorem Hs.extN (h : Hs T0 Ts H) (e : LamX.ExtN H H') (t : LamX.Tabs T0 H') : Hs T0 Ts H' := ⟨fun i T hi => T.loc H H' (fun a ha o q => e a o q (fun ps z => by
  obtain ⟨o', e1, e2⟩ := T.al H (h.all i T hi) a ha
  rw [e1] at q
  cases q
  rw [z] at e2
  exact e2)) (h.all i T hi), h.sep, t⟩
theorem Hs.ne (h : Hs T0 Ts H) (i j : Nat) {x y : Th} (hi : Ts[i]? = some x) (hj : Ts[j]? = some y) {a b : Addr} (ha : a ∈ x.ft) (hb : b ∈ y.ft) (n : i ≠ j := by decide) : a ≠ b := fun z => h.sep i j x y n hi hj a ha (z ▸ hb)
theorem Hs.keep (h : Hs T0 Ts H) {i j : Nat} {x : Th} {F : List Addr} (hi : Ts[i]? = some T) (hj : Ts[j]? = some x) (n : j ≠ i) (m : MvF F H H') (hF : ∀ a ∈ F, a ∈ T.ft ∨ H a = none) : x.P H' := by
  refine x.loc H H' (fun a ha o e => m.kp a o (fun z => ?_) e) (h.all j x hj)
  rcases hF a z with y | y
  · exact h.sep j i x T n hj hi a ha y
  · rw [y] at e
    cases e
theorem Hs.op {F : List Addr} (h : Hs T0 Ts H) (i : Nat) (hi : Ts[i]? = some T) (m : MvF F H H') (hF : ∀ a ∈ F, a ∈ T.ft ∨ H a = none) (hp : T'.P H') (hf : ∀ a ∈ T'.ft, a ∈ T.ft ∨ H a = none) : Hs T0 (Ts.set i T') H' := by
  have hil : i < Ts.length := (List.getElem?_eq_some_iff.mp hi).1
  have new : ∀ (j : Nat) (y : Th), j ≠ i → Ts[j]? = some y → ∀ a ∈ T'.ft, a ∉ y.ft := fun j y n hj a ha z => by
    rcases hf a ha with q | q
    · exact h.sep i j T y n.symm hi hj a q z
    · exact y.live (h.all j y hj) z q
  refine ⟨fun j x hj => ?_, fun j k x y n hj hk => ?_, tabs_keep h.tab fun a o e np => m.kp a o (fun z => ?_) e⟩
  · rw [List.getElem?_set] at hj
    by_cases z : i = j
    · rw [if_pos z, if_pos (z ▸ hil)] at hj
      cases hj
      exact hp
    · rw [if_neg z] at hj
      exact h.keep hi hj (fun q => z q.symm) m hF
  · rw [List.getElem?_set] at hj hk
    by_cases z : i = j
    · rw [if_pos z, if_pos (z ▸ hil)] at hj
      rw [if_neg (fun q => n (z.symm.trans q))] at hk
      cases hj
      exact new k y (fun q => n (z.symm.trans q.symm)) hk
    · rw [if_neg z] at hj
      by_cases z2 : i = k
      · rw [if_pos z2, if_pos (z2 ▸ hil)] at hk
        cases hk
        exact fun a ha hb => new j x (fun q => z q.symm) hj a hb ha
      · rw [if_neg z2] at hk
        exact h.sep j k x y n hj hk
  · rcases hF a z with y | y
    · obtain ⟨o', e1, e2⟩ := T.al H (h.all i T hi) a y
      rw [e1] at e
      cases e
      exact np e2
    · rw [y] at e
      cases e
theorem Hs.cons (h : Hs T0 Ts H) (hp : T.P H) (hf : ∀ (j : Nat) (y : Th), Ts[j]? = some y → ∀ a ∈ T.ft, a ∉ y.ft) : Hs T0 (T :: Ts) H := by
  refine ⟨fun j x hj => ?_, fun j k x y n hj hk => ?_, h.tab⟩
  · cases j with
    | zero => cases hj; exact hp
    | succ j => exact h.all j x hj
  · cases j with
    | zero =>
      cases hj
      cases k with
      | zero => exact absurd rfl n
      | succ k => exact hf k y hk
    | succ j =>
      cases k with
      | zero =>
        cases hk
        exact fun a ha hb => hf j x hj a hb ha
      | succ k => exact h.sep j k x y (fun q => n (congrArg (· + 1) q)) hj hk
theorem Hs.new (h : Hs T0 Ts H) (s : Same H H') (hp : T.P H') (hf : ∀ a ∈ T.ft, H a = none) : Hs T0 (T :: Ts) H' :=
  (h.same s).cons hp fun j y hj a ha hb => y.live (h.all j y hj) hb (hf a ha)
/-- a thing changes, and a new one comes -/
theorem Hs.opNew {F : List Addr} (h : Hs T0 Ts H) (i : Nat) (hi : Ts[i]? = some T) (m : MvF F H H') (hF : ∀ a ∈ F, a ∈ T.ft ∨ H a = none) (hp : T'.P H') (hf : ∀ a ∈ T'.ft, a ∈ T.ft ∨ H a = none) (hn : N.P H') (hnf : ∀ a ∈ N.ft, H a = none ∧ a ∉ T'.ft) : Hs T0 (N :: Ts.set i T') H' := by
  refine (h.op i hi m hF hp hf).cons hn fun j y hj a ha hb => ?_
  rw [List.getElem?_set] at hj
  by_cases z : i = j
  · rw [if_pos z, if_pos (z ▸ (List.getElem?_eq_some_iff.mp hi).1)] at hj
    cases hj
    exact (hnf a ha).2 hb
  · rw [if_neg z] at hj
    exact y.live (h.all j y hj) hb (hnf a ha).1
/-- these places of the list, in this order -/
def pickTs (Ts : List Th) : List Nat → List Th
  | [] => []
  | i :: r => match Ts[i]? with
    | some x => x :: pickTs Ts r
    | none => pickTs Ts r
theorem mem_pick : ∀ {is : List Nat} {k : Nat} {x : Th}, (pickTs Ts is)[k]? = some x → ∃ i ∈ is, Ts[i]? = some x
  | [], k, x, h => by cases h
  | i :: r, k, x, h => by
    unfold pickTs at h
    cases e : Ts[i]? with
    | none =>
      rw [e] at h
      obtain ⟨j, hj, q⟩ := mem_pick h
      exact ⟨j, .tail _ hj, q⟩
    | some y =>
      rw [e] at h
      cases k with
      | zero => cases h; exact ⟨i, .head _, e⟩
      | succ k =>
        obtain ⟨j, hj, q⟩ := mem_pick (k := k) h
        exact ⟨j, .tail _ hj, q⟩
theorem Hs.sel (h : Hs T0 Ts H) : ∀ (is : List Nat), is.Nodup → Hs T0 (pickTs Ts is) H
  | [], _ => .nil h.tab
  | i :: r, hn => by
    have hn := List.nodup_cons.mp hn
    have t := h.sel r hn.2
    unfold pickTs
    cases e : Ts[i]? with
    | none => exact t
    | some x =>
      refine t.cons (h.all i x e) fun j y hj => ?_
      obtain ⟨k, hk, q⟩ := mem_pick hj
      exact h.sep i k x y (fun z => hn.1 (z ▸ hk)) e q
theorem Hs.tail {x : Th} (h : Hs T0 (x :: Ts) H) : Hs T0 Ts H := ⟨fun i T hi => h.all (i + 1) T hi, fun i j x y n hi hj => h.sep (i + 1) (j + 1) x y (by omega) hi hj, h.tab⟩
theorem Hs.head {x : Th} (h : Hs T0 (x :: Ts) H) : x.P H := h.all 0 x rfl
theorem Hs.apart {x y : Th} (h : Hs T0 (x :: Ts) H) (hy : y ∈ Ts) : ∀ a ∈ x.ft, a ∉ y.ft := by
  obtain ⟨j, hj⟩ := List.getElem?_of_mem hy
  exact h.sep 0 (j + 1) x y (by omega) rfl hj
theorem Hs.swap {x y : Th} (h : Hs T0 (x :: y :: Ts) H) : Hs T0 (y :: x :: Ts) H :=
  (h.tail.tail.cons h.head fun j z hj => h.apart (.tail _ (List.mem_of_getElem? hj))).cons h.tail.head fun j z hj a ha hb => by
    rcases List.mem_cons.mp (List.mem_of_getElem? hj) with rfl | hm
    · exact h.apart (.head _) a hb ha
    · exact h.tail.apart hm a ha hb
theorem Hs.perm (p : Ts.Perm Ts') : ∀ {H : Hp}, Hs T0 Ts H → Hs T0 Ts' H := by
  induction p with
  | nil => exact fun h => h
  | cons x q ih => exact fun h => (ih h.tail).cons h.head fun j y hj => h.apart (q.mem_iff.mpr (List.mem_of_getElem? hj))
  | swap x y l => exact fun h => h.swap
  | trans _ _ ih1 ih2 => exact fun h => ih2 (ih1 h)
/-- two things seen as one -/
theorem Hs.merge {A B C : Th} (h : Hs T0 (A :: B :: Ts) H) (hp : C.P H) (hf : ∀ a ∈ C.ft, a ∈ A.ft ∨ a ∈ B.ft) : Hs T0 (C :: Ts) H :=
  h.tail.tail.cons hp fun j y hj a ha hb => (hf a ha).elim (fun z => h.apart (.tail _ (List.mem_of_getElem? hj)) a z hb) (fun z => h.tail.apart (List.mem_of_getElem? hj) a z hb)
theorem Hs.drop1 {x y : Th} (h : Hs T0 (x :: y :: Ts) H) : Hs T0 (x :: Ts) H := h.swap.tail
theorem Hs.drop2 {x y z : Th} (h : Hs T0 (x :: y :: z :: Ts) H) : Hs T0 (x :: y :: Ts) H := h.tail.drop1.cons h.head fun j u hj => by
  rcases List.mem_cons.mp (List.mem_of_getElem? hj) with rfl | hm
  · exact h.apart (.head _)
  · exact h.apart (.tail _ (.tail _ hm))
theorem Hs.drop3 {x y z u : Th} (h : Hs T0 (x :: y :: z :: u :: Ts) H) : Hs T0 (x :: y :: z :: Ts) H := h.tail.drop2.cons h.head fun j v hj => by
  rcases List.mem_cons.mp (List.mem_of_getElem? hj) with rfl | hm
  · exact h.apart (.head _)
  rcases List.mem_cons.mp hm with rfl | hm
  · exact h.apart (.tail _ (.head _))
  · exact h.apart (.tail _ (.tail _ (.tail _ hm)))
end
/-! ### the commonest things -/
/-- what stands at a -/
def tO (a : Addr) (o : HO) : Th := ⟨[a], fun H => H a = some o ∧ plain o, fun H H' k h => ⟨k a (.head _) o h.1, h.2⟩, fun H h b hb => by rw [List.mem_singleton.mp hb]; exact ⟨o, h⟩⟩
abbrev tL (a : Addr) (xs : List V) : Th := tO a (.lst xs)
theorem Bag.al {b : Addr × Addr} {H : Hp} (g : Bag b H) : H b.1 ≠ none ∧ H b.2 ≠ none := by
  obtain ⟨ns, i, r, x, c, h1, h2, _⟩ := g
  exact ⟨(by rw [h1]; exact fun z => nomatch z), (by rw [h2]; exact fun z => nomatch z)⟩
def tB (b : Addr × Addr) : Th := ⟨[b.1, b.2], Bag b, fun H H' k h => by
  obtain ⟨ns, i, r, x, c, h1, h2, h3⟩ := h
  exact ⟨ns, i, r, x, c, k _ (.head _) _ h1, k _ (.tail _ (.head _)) _ h2, h3⟩, fun H h a ha => by
  obtain ⟨ns, i, r, x, c, h1, h2, h3⟩ := h
  rcases List.mem_cons.mp ha with rfl | ha
  · exact ⟨_, h1, trivial⟩
  · rw [List.mem_singleton.mp ha]
    exact ⟨_, h2, trivial⟩⟩
theorem in1 {a p : Addr} (h : a ∈ [p]) : a = p := List.mem_singleton.mp h
section
variable {T0 : List (Addr × Str)} {b : Addr × Addr} {Ts : List Th} {H H' : Hp} {p : Addr} {o o' : HO}
theorem Hs.bag (h : Hs T0 (tB b :: Ts) H) : Bag b H := h.get 0 rfl
theorem mvf_bag (m : Mv b.1 H H') (g : Bag b H') : MvF [b.1, b.2] H H' := by
  obtain ⟨ns, i, r, x, c, h1, h2, h3⟩ := g
  exact .mv m h1 (.head _)
theorem Hs.mv (h : Hs T0 (tB b :: Ts) H) (m : Mv b.1 H H') (g : Bag b H') : Hs T0 (tB b :: Ts) H' := h.op (T := tB b) (T' := tB b) 0 rfl (mvf_bag m g) (fun a ha => .inl ha) g (fun a ha => .inl ha)
/-- a draw that tells a new thing -/
theorem Hs.newM (h : Hs T0 (tB b :: Ts) H) (m : Mv b.1 H H') (g : Bag b H') (n : H p = none) (e : H' p = some o) (pl : plain o := by exact trivial) : Hs T0 (tB b :: tO p o :: Ts) H' := by
  have h2 : Hs T0 (tO p o :: tB b :: Ts) H' := (h.opNew (T := tB b) (T' := tB b) (N := tO p o) 0 rfl (mvf_bag m g) (fun a ha => .inl ha) g (fun a ha => .inl ha) ⟨e, pl⟩ (fun a ha => by
    rw [in1 ha]
    refine ⟨n, fun z => ?_⟩
    rcases List.mem_cons.mp z with z | z
    · exact (h.bag.al.1) (z ▸ n)
    · exact (h.bag.al.2) (in1 z ▸ n)))
  exact h2.swap
/-- a new thing at the head -/
theorem Hs.newH (h : Hs T0 Ts H) (s : Same H H') (n : H p = none) (e : H' p = some o) (pl : plain o := by exact trivial) : Hs T0 (tO p o :: Ts) H' := h.new (T := tO p o) s ⟨e, pl⟩ (fun a ha => by rw [in1 ha]; exact n)
theorem Hs.newHU (h : Hs T0 Ts H) (n : H p = none) (pl : plain o := by exact trivial) : Hs T0 (tO p o :: Ts) (upd H p o) := h.newH (same_upd n) n upd_same pl
/-- a new thing, put behind the bag -/
theorem Hs.newB (h : Hs T0 (tB b :: Ts) H) (s : Same H H') (n : H p = none) (e : H' p = some o) (pl : plain o := by exact trivial) : Hs T0 (tB b :: tO p o :: Ts) H' := (h.newH s n e pl).swap
theorem Hs.newU (h : Hs T0 (tB b :: Ts) H) (n : H p = none) (pl : plain o := by exact trivial) : Hs T0 (tB b :: tO p o :: Ts) (upd H p o) := h.newB (same_upd n) n upd_same pl
theorem Hs.put (h : Hs T0 Ts H) (i : Nat) (hi : Ts[i]? = some (tO p o)) (pl : plain o' := by exact trivial) : Hs T0 (Ts.set i (tO p o')) (upd H p o') :=
  h.op i hi (F := [p]) ((MvF.refl [p] H).upd (.head _)) (fun a ha => .inl ha) ⟨upd_same, pl⟩ (fun a ha => .inl ha)
theorem Hs.at (h : Hs T0 Ts H) (i : Nat) (hi : Ts[i]? = some (tO p o)) : H p = some o := (h.get i hi).1
end
/-! ### groups: several things seen as one -/
theorem sep_flat {Ts : List Th} {H : Hp} (h : Hs [] Ts H) : ∀ a ∈ Ts.flatMap (·.ft), ∃ o, H a = some o ∧ plain o := fun a ha => by
  obtain ⟨T, hT, ha⟩ := List.mem_flatMap.mp ha
  obtain ⟨i, hi⟩ := List.getElem?_of_mem hT
  exact T.al H (h.all i T hi) a ha
def tG (Ts : List Th) : Th := ⟨Ts.flatMap (·.ft), fun H => Hs [] Ts H, fun H H' k h => ⟨fun i T hi => T.loc H H' (fun a ha => k a (List.mem_flatMap.mpr ⟨T, List.mem_of_getElem? hi, ha⟩)) (h.all i T hi), h.sep, fun p hp => absurd hp List.not_mem_nil⟩, fun H h a ha => sep_flat h a ha⟩
section
variable {T0 : List (Addr × Str)} {Ts Gs : List Th} {H : Hp}
theorem Hs.tabs0 (h : Hs T0 Ts H) : Hs [] Ts H := ⟨h.all, h.sep, fun p hp => absurd hp List.not_mem_nil⟩
theorem Hs.app : ∀ {As : List Th}, Hs [] As H → Hs T0 Ts H → (∀ x ∈ As, ∀ y ∈ Ts, ∀ a ∈ x.ft, a ∉ y.ft) → Hs T0 (As ++ Ts) H
  | [], _, h, _ => h
  | A :: As, g, h, d => (Hs.app g.tail h (fun x hx => d x (.tail _ hx))).cons g.head fun j y hj a ha hb => by
    rcases List.mem_append.mp (List.mem_of_getElem? hj) with hm | hm
    · exact g.apart hm a ha hb
    · exact d A (.head _) y hm a ha hb
theorem Hs.left : ∀ {As : List Th}, Hs T0 (As ++ Ts) H → Hs [] As H
  | [], _ => .nil (fun p hp => absurd hp List.not_mem_nil)
  | A :: As, h => (Hs.left (As := As) h.tail).cons h.head fun j y hj => h.apart (List.mem_append_left _ (List.mem_of_getElem? hj))
theorem Hs.right : ∀ {As : List Th}, Hs T0 (As ++ Ts) H → Hs T0 Ts H
  | [], h => h
  | _ :: As, h => Hs.right (As := As) h.tail
theorem Hs.cross : ∀ {As : List Th}, Hs T0 (As ++ Ts) H → ∀ x ∈ As, ∀ y ∈ Ts, ∀ a ∈ x.ft, a ∉ y.ft
  | A :: As, h, x, hx, y, hy => by
    rcases List.mem_cons.mp hx with rfl | hx
    · exact h.apart (List.mem_append_right _ hy)
    · exact Hs.cross (As := As) h.tail x hx y hy
theorem Hs.ungroup (h : Hs T0 (tG Ts :: Gs) H) : Hs T0 (Ts ++ Gs) H := Hs.app h.head h.tail (fun x hx y hy a ha hb => h.apart hy a (List.mem_flatMap.mpr ⟨x, hx, ha⟩) hb)
theorem Hs.group (h : Hs T0 (Ts ++ Gs) H) : Hs T0 (tG Ts :: Gs) H := h.right.cons h.left fun j y hj a ha hb => by
  obtain ⟨x, hx, ha⟩ := List.mem_flatMap.mp ha
  exact h.cross x hx y (List.mem_of_getElem? hj) a ha hb
end
section
variable {α : Type} {T0 : List (Addr × Str)} {As : List Th} {Y : List α} {f : α → Th} {w : Nat} {y y' : α} {H : Hp}
theorem perm_at : ∀ {Y : List α} {w : Nat} {y : α}, Y[w]? = some y → (y :: Y.eraseIdx w).Perm Y
  | x :: Y, 0, y, h => by cases h; exact .refl _
  | x :: Y, w + 1, y, h => (List.Perm.swap x y _).trans (.cons x (perm_at (Y := Y) (w := w) h))
theorem erase_set : ∀ (Y : List α) (w : Nat) (y : α), (Y.set w y).eraseIdx w = Y.eraseIdx w
  | [], _, _ => rfl
  | x :: Y, 0, y => rfl
  | x :: Y, w + 1, y => congrArg (x :: ·) (erase_set Y w y)
/-- the w-th one to the head -/
theorem Hs.front (h : Hs T0 (As ++ Y.map f) H) (hy : Y[w]? = some y) : Hs T0 (f y :: (As ++ (Y.eraseIdx w).map f)) H := by
  refine h.perm (List.Perm.trans ?_ List.perm_middle)
  exact .append_left As ((perm_at hy).map f).symm
theorem Hs.back (h : Hs T0 (f y' :: (As ++ (Y.eraseIdx w).map f)) H) (hw : w < Y.length) : Hs T0 (As ++ (Y.set w y').map f) H := by
  have hy : (Y.set w y')[w]? = some y' := by rw [List.getElem?_set, if_pos rfl, if_pos hw]
  have := perm_at hy
  rw [erase_set] at this
  refine h.perm (List.Perm.trans List.perm_middle.symm ?_)
  exact .append_left As (this.map f)
end
end WB
namespace WB
open PySem PySem.Spec PyProof.Rows L2
section
variable {X : Cx} (K : PySem.W.Frag)
theorem cr_sumK (h : X.K = K) (hc : X.calm = true) : CallR X (.builtin "sum") (rSum K) := by subst h; exact cr_sum hc
theorem cr_minK (h : X.K = K) (hc : X.calm = true) : CallR X (.builtin "min") (rMin K) := by subst h; exact cr_min hc
theorem cr_maxK (h : X.K = K) (hc : X.calm = true) : CallR X (.builtin "max") (rMax K) := by subst h; exact cr_max hc
end
/-! ### while, by an invariant and a measure -/
def wN (Pv : L2.St → Hp → Prop) (μ : L2.St → Hp → Nat) (m : Nat) : L2.St → Hp → Prop := fun σ H => Pv σ H ∧ μ σ H < m
theorem wN_ok {Pv : L2.St → Hp → Prop} {μ : L2.St → Hp → Nat} {m : Nat} : ∀ σ' H', wN Pv μ m σ' H' → ∃ m', m' < m ∧ m' = μ σ' H' ∧ Pv σ' H' := fun _ _ h => ⟨_, h.2, rfl, h.1⟩
theorem while_w {c : TT} {tb : TS} {D : Ends} {σ : L2.St} {H : Hp} (Pv : L2.St → Hp → Prop) (μ : L2.St → Hp → Nat) (h0 : Pv σ H)
    (hs : ∀ σ H, Pv σ H → c σ H fun b H1 => if b = true then ∃ N : L2.St → Hp → Prop, (∀ σ' H', N σ' H' → ∃ m', m' < μ σ H ∧ m' = μ σ' H' ∧ Pv σ' H') ∧ tb { D with nx := N, ct := N, bk := D.nx } σ H1 else D.nx σ H1) : tWhile c tb D σ H := by
  refine ⟨fun m σ H => m = μ σ H ∧ Pv σ H, ⟨_, rfl, h0⟩, ?_⟩
  rintro m σ H ⟨rfl, p⟩
  exact hs σ H p
/-! ### defs with keyword-only parameters: n written by place, keywords named ks; gV puts them in the parameters' order -/
def CalW (P : Program) (w : World) (K : PySem.W.Frag) (mg : Str → Option Value) (base : Heap) (k : Nat) (nm : Str) (ps : List Str) (n : Nat) (ks : List Str) (gV : List V → List V → List V) (sp : Sp) : Prop :=
  ∃ (f : Addr) (fd : FuncData) (g : List Value → List Value → List Value), FnOk P w K mg base (L2.CX P w) k f fd ps sp ∧ mg nm = some (.ref f) ∧ PySem.W.keepIn K (.ref f) = true ∧ KBn K fd ps n ks g gV
theorem CalW.mono {P : Program} {w : World} {K : PySem.W.Frag} {mg : Str → Option Value} {base : Heap} {j k n : Nat} {nm : Str} {ps ks : List Str} {gV : List V → List V → List V} {sp : Sp} (c : CalW P w K mg base j nm ps n ks gV sp) (h : j ≤ k) : CalW P w K mg base k nm ps n ks gV sp := by
  obtain ⟨f, fd, g, a, b, d, e⟩ := c
  exact ⟨f, fd, g, a.mono h, b, d, e⟩
/-- with the keyword-only ones left out: dvs their values -/
def CalD (P : Program) (w : World) (K : PySem.W.Frag) (mg : Str → Option Value) (base : Heap) (k : Nat) (nm : Str) (ps : List Str) (dvs : List V) (sp : Sp) : Prop :=
  ∃ (f : Addr) (fd : FuncData) (ds : List Value), FnOk P w K mg base (L2.CX P w) k f fd ps sp ∧ mg nm = some (.ref f) ∧ PySem.W.keepIn K (.ref f) = true ∧ Binds K fd ps ds ∧ Vals dvs ds
theorem CalD.mono {P : Program} {w : World} {K : PySem.W.Frag} {mg : Str → Option Value} {base : Heap} {j k : Nat} {nm : Str} {ps : List Str} {dvs : List V} {sp : Sp} (c : CalD P w K mg base j nm ps dvs sp) (h : j ≤ k) : CalD P w K mg base k nm ps dvs sp := by
  obtain ⟨f, fd, g, a, b, d, e⟩ := c
  exact ⟨f, fd, g, a.mono h, b, d, e⟩
/-- new things of the class at C, by keywords -/
def CalNW (P : Program) (w : World) (K : PySem.W.Frag) (mg : Str → Option Value) (base : Heap) (k : Nat) (nm : Str) (C : Addr) (ps ks : List Str) (gV : List V → List V → List V) (sp : Sp) : Prop :=
  ∃ (f : Addr) (fd : FuncData) (g : List Value → List Value → List Value), Mk K C f ∧ FnOk P w K mg base (L2.CX P w) k f fd ps sp ∧ mg nm = some (.ref C) ∧ KBn K fd ps 1 ks g gV
theorem CalNW.mono {P : Program} {w : World} {K : PySem.W.Frag} {mg : Str → Option Value} {base : Heap} {j k : Nat} {nm : Str} {C : Addr} {ps ks : List Str} {gV : List V → List V → List V} {sp : Sp} (c : CalNW P w K mg base j nm C ps ks gV sp) (h : j ≤ k) : CalNW P w K mg base k nm C ps ks gV sp := by
  obtain ⟨f, fd, g, a, b, d, e⟩ := c
  exact ⟨f, fd, g, a, b.mono h, d, e⟩
/-- and with the keyword-only ones left out -/
def CalND (P : Program) (w : World) (K : PySem.W.Frag) (mg : Str → Option Value) (base : Heap) (k : Nat) (nm : Str) (C : Addr) (ps : List Str) (dvs : List V) (sp : Sp) : Prop :=
  ∃ (f : Addr) (fd : FuncData) (ds : List Value), Mk K C f ∧ FnOk P w K mg base (L2.CX P w) k f fd ps sp ∧ mg nm = some (.ref C) ∧ Binds K fd ps ds ∧ Vals dvs ds
theorem CalND.mono {P : Program} {w : World} {K : PySem.W.Frag} {mg : Str → Option Value} {base : Heap} {j k : Nat} {nm : Str} {C : Addr} {ps : List Str} {dvs : List V} {sp : Sp} (c : CalND P w K mg base j nm C ps dvs sp) (h : j ≤ k) : CalND P w K mg base k nm C ps dvs sp := by
  obtain ⟨f, fd, g, a, b, d, e⟩ := c
  exact ⟨f, fd, g, a, b.mono h, d, e⟩
section
variable {X : Cx} {k n : Nat} {C : Addr} {ps ks : List Str} {sp : Sp} {E : XK} {nm : Str} {p pos : Pos} {e : Expr} {es : List Expr} {kws : List Keyword} {t tk : TA} {gV : List V → List V → List V} {dvs : List V}
theorem pe_callW (c : CalW X.prog X.w X.K X.mg X.base k nm ps n ks gV sp) (hr : Room k X.A) (hx : Passes (L2.CX X.prog X.w) X E) (hg : Gl X nm) (ha : PA X (e :: es) t) (hkw : PK X kws tk)
    (hall : (backToKw pos (keywordEach kws X.env)).all (·.1.isSome) = true := by rfl) (hks : (backToKw pos (keywordEach kws X.env)).filterMap (·.1) = ks := by rfl)
    (hdb : (nm == ("__debug__" : Str)) = false := by decide) (he : starEach (e :: es) X.env = (false, eval e X.env) :: starEach es X.env := by rfl)
    (hpl : ((backTo pos (starEach (e :: es) X.env)).any (·.1) || (backToKw pos (keywordEach kws X.env)).any (·.1.isNone)) = false := by rfl) :
    PE X (.Call (.Name nm p) (e :: es) kws pos) (tCallN n ks.length sp gV E t tk) := by
  obtain ⟨f, fd, g, a, b, d, q⟩ := c
  exact pe_callN a hr hg b d q hx ha hkw hall hks hdb he hpl
theorem pe_callWF (c : CalW X.prog X.w X.K X.mg X.base k nm ps n ks gV sp) (hr : Room k X.A) (hg : Gl X nm) (ha : PA X (e :: es) t) (hkw : PK X kws tk)
    (hall : (backToKw pos (keywordEach kws X.env)).all (·.1.isSome) = true := by rfl) (hks : (backToKw pos (keywordEach kws X.env)).filterMap (·.1) = ks := by rfl)
    (hdb : (nm == ("__debug__" : Str)) = false := by decide) (he : starEach (e :: es) X.env = (false, eval e X.env) :: starEach es X.env := by rfl)
    (hpl : ((backTo pos (starEach (e :: es) X.env)).any (·.1) || (backToKw pos (keywordEach kws X.env)).any (·.1.isNone)) = false := by rfl) :
    PE X (.Call (.Name nm p) (e :: es) kws pos) (tCallN n ks.length sp gV E0 t tk) := pe_callW c hr passL hg ha hkw hall hks hdb he hpl
/-- keywords alone -/
theorem pe_callW0 (c : CalW X.prog X.w X.K X.mg X.base k nm ps 0 ks gV sp) (hr : Room k X.A) (hx : Passes (L2.CX X.prog X.w) X E) (hg : Gl X nm) (hkw : PK X kws tk)
    (hall : (backToKw pos (keywordEach kws X.env)).all (·.1.isSome) = true := by rfl) (hks : (backToKw pos (keywordEach kws X.env)).filterMap (·.1) = ks := by rfl) (hdb : (nm == ("__debug__" : Str)) = false := by decide)
    (hpl : ((backTo pos (starEach [] X.env)).any (·.1) || (backToKw pos (keywordEach kws X.env)).any (·.1.isNone)) = false := by rfl) :
    PE X (.Call (.Name nm p) [] kws pos) (tCallN 0 ks.length sp gV E tNil tk) := by
  obtain ⟨f, fd, g, a, b, d, hb⟩ := c
  refine ⟨fun pins s σ H Q I h => wpAny_Call_Name_kw (ld_glob I hg b ?_ hdb)⟩
  refine PySem.W.callWith_KW0 (I.ok.mod.kin) d hall (thn (hkw.run pos pins s σ H _ I h) fun ws s2 x => ?_) hpl
  obtain ⟨zs, H2, I2, rz, l1, l2, q2⟩ := x
  refine ⟨I2.kIn, ?_⟩
  rw [hks]
  exact run_fnN (us := []) (vs := []) a hr hb hx I2 .nil rz rfl l2 q2
theorem pe_callW0F (c : CalW X.prog X.w X.K X.mg X.base k nm ps 0 ks gV sp) (hr : Room k X.A) (hg : Gl X nm) (hkw : PK X kws tk)
    (hall : (backToKw pos (keywordEach kws X.env)).all (·.1.isSome) = true := by rfl) (hks : (backToKw pos (keywordEach kws X.env)).filterMap (·.1) = ks := by rfl) (hdb : (nm == ("__debug__" : Str)) = false := by decide)
    (hpl : ((backTo pos (starEach [] X.env)).any (·.1) || (backToKw pos (keywordEach kws X.env)).any (·.1.isNone)) = false := by rfl) :
    PE X (.Call (.Name nm p) [] kws pos) (tCallN 0 ks.length sp gV E0 tNil tk) := pe_callW0 c hr passL hg hkw hall hks hdb hpl
/-- the keyword-only ones left out -/
theorem pe_callD (c : CalD X.prog X.w X.K X.mg X.base k nm ps dvs sp) (hr : Room k X.A) (hx : Passes (L2.CX X.prog X.w) X E) (hg : Gl X nm) (ha : PA X (e :: es) t) (hdb : (nm == ("__debug__" : Str)) = false := by decide)
    (he : starEach (e :: es) X.env = (false, eval e X.env) :: starEach es X.env := by rfl) (hpl : (backTo pos (starEach es X.env)).any (·.1) = false := by rfl) :
    PE X (.Call (.Name nm p) (e :: es) [] pos) (tCall sp dvs E t) := by
  obtain ⟨f, fd, ds, a, b, d, q, v⟩ := c
  exact pe_call a hr hg b d q v hx ha hdb he hpl
theorem pe_callDF (c : CalD X.prog X.w X.K X.mg X.base k nm ps dvs sp) (hr : Room k X.A) (hg : Gl X nm) (ha : PA X (e :: es) t) (hdb : (nm == ("__debug__" : Str)) = false := by decide)
    (he : starEach (e :: es) X.env = (false, eval e X.env) :: starEach es X.env := by rfl) (hpl : (backTo pos (starEach es X.env)).any (·.1) = false := by rfl) :
    PE X (.Call (.Name nm p) (e :: es) [] pos) (tCall sp dvs E0 t) := pe_callD c hr passL hg ha hdb he hpl
theorem pe_callD0F (c : CalD X.prog X.w X.K X.mg X.base k nm ps dvs sp) (hr : Room k X.A) (hg : Gl X nm) (hdb : (nm == ("__debug__" : Str)) = false := by decide) :
    PE X (.Call (.Name nm p) [] [] pos) (tCall sp dvs E0 tNil) := by
  obtain ⟨f, fd, ds, a, b, d, q, v⟩ := c
  exact pe_call0 a hr hg b d q v passL hdb
theorem pe_makeW (c : CalNW X.prog X.w X.K X.mg X.base k nm C ps ks gV sp) (hr : Room (k + 1) X.A) (hx : Passes (L2.CX X.prog X.w) X E) (hg : Gl X nm) (hkw : PK X kws tk)
    (hall : (backToKw pos (keywordEach kws X.env)).all (·.1.isSome) = true := by rfl) (hks : (backToKw pos (keywordEach kws X.env)).filterMap (·.1) = ks := by rfl) (hdb : (nm == ("__debug__" : Str)) = false := by decide)
    (hpl : ((backTo pos (starEach [] X.env)).any (·.1) || (backToKw pos (keywordEach kws X.env)).any (·.1.isNone)) = false := by rfl) :
    PE X (.Call (.Name nm p) [] kws pos) (tMakeK C 0 ks.length sp gV E tNil tk) := by
  obtain ⟨f, fd, g, a, b, d, hb⟩ := c
  exact pe_makeK0 a b hr hg d hb hx hkw hall hks hdb hpl
theorem pe_makeWF (c : CalNW X.prog X.w X.K X.mg X.base k nm C ps ks gV sp) (hr : Room (k + 1) X.A) (hg : Gl X nm) (hkw : PK X kws tk)
    (hall : (backToKw pos (keywordEach kws X.env)).all (·.1.isSome) = true := by rfl) (hks : (backToKw pos (keywordEach kws X.env)).filterMap (·.1) = ks := by rfl) (hdb : (nm == ("__debug__" : Str)) = false := by decide)
    (hpl : ((backTo pos (starEach [] X.env)).any (·.1) || (backToKw pos (keywordEach kws X.env)).any (·.1.isNone)) = false := by rfl) :
    PE X (.Call (.Name nm p) [] kws pos) (tMakeK C 0 ks.length sp gV E0 tNil tk) := pe_makeW c hr passL hg hkw hall hks hdb hpl
theorem pe_makeDF (c : CalND X.prog X.w X.K X.mg X.base k nm C ps dvs sp) (hr : Room (k + 1) X.A) (hg : Gl X nm) (hdb : (nm == ("__debug__" : Str)) = false := by decide) :
    PE X (.Call (.Name nm p) [] [] pos) (tMake C sp dvs E0 tNil) := by
  obtain ⟨f, fd, ds, a, b, d, hb, v⟩ := c
  exact pe_make0 a b hr hg d hb v passL hdb
end
/-! ### defs as values, called out of a list -/
def tGl (mg : Str → Option Value) (nm : Str) : TE := fun _ H Q => ∀ f, mg nm = some (.ref f) → Q (.ref f) H
def tCall2 (mg : Str → Option Value) (nm1 nm2 : Str) (sp1 sp2 : Sp) (tf : TE) (t : TA) : TE := fun σ H Q => tf σ H fun y H1 => ∃ f, y = .ref f ∧ ((mg nm1 = some (.ref f) ∧ t σ H1 fun vs H2 => sp1 (vs ++ []) H2 Q E0) ∨ (mg nm2 = some (.ref f) ∧ t σ H1 fun vs H2 => sp2 (vs ++ []) H2 Q E0))
section
variable {X : Cx} {k : Nat} {nm nm1 nm2 : Str} {ps ps1 ps2 : List Str} {sp sp1 sp2 : Sp} {fe e : Expr} {es : List Expr} {tf : TE} {t : TA} {p pos : Pos}
theorem pe_gl (c : Cal X.prog X.w X.K X.mg X.base k nm ps sp) (mg : Str → Option Value) (hm : X.mg = mg) (hg : Gl X nm) (hdb : (nm == ("__debug__" : Str)) = false := by decide) : PE X (.Name nm p) (tGl mg nm) := by
  subst hm
  obtain ⟨f, fd, a, b, d, g⟩ := c
  refine ⟨fun pins s σ H Q I h => ?_⟩
  exact (pe_glob (v := .ref f) (pos := p) hg b rfl hdb).run pins s σ H Q I (h f b)
theorem pe_call2 (c1 : Cal X.prog X.w X.K X.mg X.base k nm1 ps1 sp1) (c2 : Cal X.prog X.w X.K X.mg X.base k nm2 ps2 sp2) (mg : Str → Option Value) (hm : X.mg = mg) (hf : PE X fe tf) (hr : Room k X.A) (ha : PA X (e :: es) t)
    (ht : eval (.Call fe (e :: es) [] pos) X.env = (do callWith pos (← eval fe X.env) [] (backTo pos (starEach (e :: es) X.env)) (backToKw pos (keywordEach [] X.env))) := by rfl)
    (he : starEach (e :: es) X.env = (false, eval e X.env) :: starEach es X.env := by rfl) (hpl : (backTo pos (starEach es X.env)).any (·.1) = false := by rfl) : PE X (.Call fe (e :: es) [] pos) (tCall2 mg nm1 nm2 sp1 sp2 tf t) := by
  subst hm
  obtain ⟨f1, fd1, a1, b1, d1, g1⟩ := c1
  obtain ⟨f2, fd2, a2, b2, d2, g2⟩ := c2
  refine ⟨fun pins s σ H Q I h => ?_⟩
  refine Call_ (thn (hf.run pins s σ H _ I h) fun u s1 ⟨y, H1, I1, ry, f, ey, q⟩ => ?_) ht
  subst ey
  obtain rfl : u = Value.ref f := ry
  rcases q with ⟨m, q⟩ | ⟨m, q⟩
  · obtain rfl : f1 = f := by
      rw [b1] at m
      cases m
      rfl
    refine PySem.W.callWith_K (h₀ := X.base) I.ok.mod.kin d1 (thn (ha.run pos pins s1 σ _ _ I1 q) fun us s2 ⟨vs, H2, I2, r, q⟩ => ⟨I2.kIn, ?_⟩) he hpl
    exact run_fn a1 hr g1 .nil pass0 I2 r q
  · obtain rfl : f2 = f := by
      rw [b2] at m
      cases m
      rfl
    refine PySem.W.callWith_K (h₀ := X.base) I.ok.mod.kin d2 (thn (ha.run pos pins s1 σ _ _ I1 q) fun us s2 ⟨vs, H2, I2, r, q⟩ => ⟨I2.kIn, ?_⟩) he hpl
    exact run_fn a2 hr g2 .nil pass0 I2 r q
end
section
variable {K : PySem.W.Frag} {x qual y : Str} {params : Arguments} {body : List Stmt} {scope : Scope} {kws : List (Str × V)} {f : Addr} {fd : FuncData} {ps : List Str} {v : V}
theorem kbn_app (F : FunD K x qual params body scope [] kws f fd) (n : Nat) (ks : List Str) (hk : kws ≠ [])
    (h : ∀ (D : Addr) (doc pm : Value) (an : Option Addr) (cdv ct : Value) (us ws : List Value), us.length = n → ws.length = ks.length → bindArgs (PySem.W.fnOf x qual params body scope .none (.ref D) doc pm an cdv ct) ⟨us, ks.zip ws⟩ = pure (ps.zip (us ++ ws))) :
    ∃ g, KBn K fd ps n ks g (fun vs zs => vs ++ zs) := by
  obtain ⟨mv, h⟩ := F.kbinds0 (ps := ps) n ks [] (fun {α} us mv ws => us ++ ws) hk (fun q hq => by cases hq) (fun r1 _ r3 => r1.append r3) (fun D doc pm an cdv ct us mv ws l1 l2 l3 => by
    have : mv = [] := List.eq_nil_of_length_eq_zero l2
    subst this
    exact h D doc pm an cdv ct us ws l1 l3)
  exact ⟨_, h⟩
/-- two keywords, in the other order -/
theorem kbn_two (F : FunD K x qual params body scope [] kws f fd) (ks : List Str) (hk : kws ≠ []) (h2 : ks.length = 2)
    (h : ∀ (D : Addr) (doc pm : Value) (an : Option Addr) (cdv ct : Value) (u v : Value), bindArgs (PySem.W.fnOf x qual params body scope .none (.ref D) doc pm an cdv ct) ⟨[], ks.zip [u, v]⟩ = pure (ps.zip [v, u])) :
    ∃ g, KBn K fd ps 0 ks g (fun vs zs => vs ++ two zs) := by
  obtain ⟨mv, h⟩ := F.kbinds0 (ps := ps) 0 ks [] (fun {α} us mv ws => us ++ two ws) hk (fun q hq => by cases hq) (fun r1 _ r3 => r1.append (by
    cases r3 with
    | nil => exact .nil
    | cons a r => cases r with
      | nil => exact .nil
      | cons b r => cases r with
        | nil => exact .cons b (.cons a .nil)
        | cons _ _ => exact .nil)) (fun D doc pm an cdv ct us mv ws l1 l2 l3 => by
    have : mv = [] := List.eq_nil_of_length_eq_zero l2
    subst this
    have : us = [] := List.eq_nil_of_length_eq_zero l1
    subst this
    rw [h2] at l3
    match ws, l3 with
    | [u, v], _ => exact h D doc pm an cdv ct u v)
  exact ⟨_, h⟩
theorem dfl_one (F : FunD K x qual params body scope [] [(y, v)] f fd) (n : Nat) (hn : n + 1 = ps.length)
    (h : ∀ (D : Addr) (doc pm : Value) (an : Option Addr) (cdv ct : Value) (us : List Value) (u : Value), us.length = n → KwChain D [(y, u)] (bindArgs (PySem.W.fnOf x qual params body scope .none (.ref D) doc pm an cdv ct) ⟨us, []⟩) (ps.zip (us ++ [u]))) :
    ∃ ds, Vals [v] ds ∧ Binds K fd ps ds := F.binds0 n (by intro z; cases z) hn (fun D doc pm an cdv ct us ks l1 l2 => by
  match ks, l2 with
  | [u], _ => exact h D doc pm an cdv ct us u l1)
theorem funD_one {oc : Value} {od an : Option Addr} {dc pm cd ct : Value} {sl : Array (Option Value)} {D : Addr} {u : Value} (l : K.lookup f = some ⟨oc, od, .func (PySem.W.fnOf x qual params body scope .none (.ref D) dc pm an cd ct), sl⟩) (c : PySem.W.codeIn K cd qual = true) (k : PySem.W.keepIn K (.ref f) = true)
    (n : PySem.W.nsIn K D y = some (some u)) (r : RelV v u) : FunD K x qual params body scope [] [(y, v)] f (PySem.W.fnOf x qual params body scope .none (.ref D) dc pm an cd ct) :=
  ⟨⟨_, _, _, _, _, _, _, _, _, _, rfl, l, c, .inl ⟨rfl, rfl⟩, .inr ⟨D, rfl, fun q hq => by rw [List.mem_singleton.mp hq]; exact ⟨u, n, r⟩⟩⟩, k⟩
end
end WB
namespace WB
open PySem PySem.Spec PyProof.Rows L2
/-! ### many things of one kind, as one -/
section
variable {α : Type} {T0 : List (Addr × Str)} {Ts : List Th} {Y : List α} {f : α → Th} {i j : Nat} {y y' z : α} {H H' : Hp} {N : Th}
theorem mem_tG {a : Addr} : a ∈ (tG (Y.map f)).ft ↔ ∃ y ∈ Y, a ∈ (f y).ft := by
  show a ∈ (Y.map f).flatMap (·.ft) ↔ _
  rw [List.mem_flatMap]
  constructor
  · rintro ⟨T, hT, ha⟩
    obtain ⟨y, hy, rfl⟩ := List.mem_map.mp hT
    exact ⟨y, hy, ha⟩
  · rintro ⟨y, hy, ha⟩
    exact ⟨f y, List.mem_map.mpr ⟨y, hy, rfl⟩, ha⟩
theorem map_at (hj : Y[j]? = some y) : (Y.map f)[j]? = some (f y) := by
  rw [List.getElem?_map, hj]
  rfl
theorem Hs.gget (h : Hs T0 Ts H) (i : Nat) (hi : Ts[i]? = some (tG (Y.map f))) (hj : Y[j]? = some y) : (f y).P H := by
  have g : Hs [] (Y.map f) H := h.get i hi
  exact g.get j (map_at hj)
theorem gset_ft (hj : Y[j]? = some y) (hf : ∀ a ∈ (f y').ft, a ∈ (f y).ft ∨ H a = none) : ∀ a ∈ (tG ((Y.set j y').map f)).ft, a ∈ (tG (Y.map f)).ft ∨ H a = none := fun a ha => by
  obtain ⟨z, hz, ha⟩ := mem_tG.mp ha
  rcases List.mem_or_eq_of_mem_set hz with q | q
  · exact .inl (mem_tG.mpr ⟨z, q, ha⟩)
  · rw [q] at ha
    exact (hf a ha).imp (fun x => mem_tG.mpr ⟨y, List.mem_of_getElem? hj, x⟩) id
theorem gset_P {F : List Addr} (g : Hs [] (Y.map f) H) (hj : Y[j]? = some y) (m : MvF F H H') (hF : ∀ a ∈ F, a ∈ (f y).ft ∨ H a = none) (hp : (f y').P H') (hf : ∀ a ∈ (f y').ft, a ∈ (f y).ft ∨ H a = none) : (tG ((Y.set j y').map f)).P H' := by
  have := g.op (T' := f y') j (map_at hj) m hF hp hf
  rw [← List.map_set] at this
  exact this
theorem Hs.gset {F : List Addr} (h : Hs T0 Ts H) (i : Nat) (hi : Ts[i]? = some (tG (Y.map f))) (hj : Y[j]? = some y) (m : MvF F H H') (hF : ∀ a ∈ F, a ∈ (f y).ft ∨ H a = none) (hp : (f y').P H') (hf : ∀ a ∈ (f y').ft, a ∈ (f y).ft ∨ H a = none) : Hs T0 (Ts.set i (tG ((Y.set j y').map f))) H' :=
  h.op i hi m (fun a ha => (hF a ha).imp (fun x => mem_tG.mpr ⟨y, List.mem_of_getElem? hj, x⟩) id) (gset_P (h.get i hi) hj m hF hp hf) (gset_ft hj hf)
/-- the j-th changes, and a new one comes -/
theorem Hs.gsetN {F : List Addr} (h : Hs T0 Ts H) (i : Nat) (hi : Ts[i]? = some (tG (Y.map f))) (hj : Y[j]? = some y) (m : MvF F H H') (hF : ∀ a ∈ F, a ∈ (f y).ft ∨ H a = none) (hp : (f y').P H') (hf : ∀ a ∈ (f y').ft, a ∈ (f y).ft ∨ H a = none)
    (hn : N.P H') (hnf : ∀ a ∈ N.ft, H a = none ∧ a ∉ (f y').ft) : Hs T0 (N :: Ts.set i (tG ((Y.set j y').map f))) H' := by
  refine h.opNew i hi m (fun a ha => (hF a ha).imp (fun x => mem_tG.mpr ⟨y, List.mem_of_getElem? hj, x⟩) id) (gset_P (h.get i hi) hj m hF hp hf) (gset_ft hj hf) hn (fun a ha => ⟨(hnf a ha).1, fun q => ?_⟩)
  obtain ⟨z, hz, hz2⟩ := mem_tG.mp q
  rcases List.mem_or_eq_of_mem_set hz with q | q
  · have g : Hs [] (Y.map f) H := h.get i hi
    obtain ⟨k, hk⟩ := List.getElem?_of_mem q
    exact (f z).live (g.get k (map_at hk)) hz2 (hnf a ha).1
  · rw [q] at hz2
    exact (hnf a ha).2 hz2
theorem Hs.gadd (h : Hs T0 (f z :: tG (Y.map f) :: Ts) H) : Hs T0 (tG ((Y ++ [z]).map f) :: Ts) H := by
  have h1 := h.swap.ungroup
  rw [show Y.map f ++ f z :: Ts = (Y ++ [z]).map f ++ Ts by simp] at h1
  exact h1.group
theorem Hs.gnil (h : Hs T0 Ts H) : Hs T0 (tG (([] : List α).map f) :: Ts) H := Hs.group (Ts := []) h
end
theorem map_set_same {α β : Type} {f : α → β} {Y : List α} {w : Nat} {x x' : α} (h : Y[w]? = some x) (e : f x' = f x) : (Y.set w x').map f = Y.map f := by
  rw [List.map_set, e]
  apply List.ext_getElem?
  intro i
  rw [List.getElem?_set]
  by_cases z : w = i
  · subst z
    rw [if_pos rfl, List.getElem?_map, h, List.length_map, if_pos (List.getElem?_eq_some_iff.mp h).1]
    rfl
  · rw [if_neg z]
theorem getElem?_ex {α : Type} {l : List α} {i : Nat} (h : i < l.length) : ∃ x, l[i]? = some x := ⟨_, List.getElem?_eq_getElem h⟩
end WB
namespace WB
open PySem PySem.Spec PyProof.Rows L2
def topS (i : Nat) : Stmt := PySem.Challenge.pw_warbleline_k15_scramblers_refused.main.body.getD i (.Pass ⟨0, 0, 0, 0⟩)
abbrev s__wall : Stmt := topS 0
abbrev s_LineError : Stmt := topS 2
abbrev s_BadBit : Stmt := topS 3
abbrev s_BadByte : Stmt := topS 4
abbrev s_BadCode : Stmt := topS 5
abbrev s_BadFrame : Stmt := topS 6
abbrev s_BadCount : Stmt := topS 7
abbrev s_Missing : Stmt := topS 8
abbrev s_check_bits : Stmt := topS 11
abbrev s_number_bits : Stmt := topS 12
abbrev s_bits_number : Stmt := topS 13
abbrev s_pushed_through : Stmt := topS 18
abbrev s_Scrambler : Stmt := topS 19
abbrev m_Scrambler___init__ : Stmt := inClass s_Scrambler 0
abbrev m_Scrambler_push : Stmt := inClass s_Scrambler 1
abbrev m_Scrambler_memory : Stmt := inClass s_Scrambler 2
abbrev m_Scrambler_twin : Stmt := inClass s_Scrambler 3
abbrev s_Descrambler : Stmt := topS 20
abbrev m_Descrambler___init__ : Stmt := inClass s_Descrambler 0
abbrev m_Descrambler_push : Stmt := inClass s_Descrambler 1
abbrev m_Descrambler_memory : Stmt := inClass s_Descrambler 2
abbrev m_Descrambler_twin : Stmt := inClass s_Descrambler 3
abbrev s__law_bag : Stmt := topS 22
abbrev s__law_pick : Stmt := topS 23
abbrev s__law_of : Stmt := topS 24
abbrev s__law_same : Stmt := topS 25
abbrev s__law_tried : Stmt := topS 26
abbrev s__law_at : Stmt := topS 27
abbrev s__law_written : Stmt := topS 28
abbrev s__law_worth : Stmt := topS 29
abbrev s__law_bits : Stmt := topS 30
abbrev s__law_strange : Stmt := topS 31
abbrev s__law_scrambled : Stmt := topS 32
abbrev s__law_descrambled : Stmt := topS 33
abbrev s__law_spoilt : Stmt := topS 34
abbrev s_law : Stmt := topS 35
section
variable {P : Program} {w : World} {K : PySem.W.Frag} {mg : Str → Option Value} {base : Heap}
abbrev i_LineError : Stmt := inClass s_LineError 0
theorem sc_i_LineError : FnScope ["self", "word", "text"] ["self", "word", "text"] (defScope i_LineError) := ⟨rfl, rfl, rfl, by decide +kernel, rfl, by decide +kernel, by decide +kernel⟩
theorem ok_i_LineError {f : Addr} {fd : FuncData} {k : Nat} {dvs : List V} (F : FunD K "__init__" "LineError.__init__" (defArgs i_LineError) (defBody i_LineError) (defScope i_LineError) dvs [] f fd) (n_ValueError : mg "ValueError" = none) (vV : PySem.W.findCls K (.type "ValueError") (.type "type") "__init__" = some (.val (.builtin "ValueError.__init__"))) :
    FnOk P w K mg base CX0 (k + 1) f fd ["self", "word", "text"] (spLE K) := by
  have sc := sc_i_LineError
  refine F.ok sc (fun vs H Q E h => ?_) (fun cdv A outer s H vs Q E hr h => ?_)
  · obtain ⟨a, C, w, t, rfl, _⟩ := h
    rfl
  · obtain ⟨a, C, w, t, rfl, hC, hw, ha, q⟩ := h
    refine ⟨_, PSs.nox (pss_cons (ps_expr (pe_veinit (by rfl) n_ValueError vV (pa_cons (pv 0) (pa_cons (pv 2) pa_nil)))) (pss_one (ps_ost (pv 0) (pv 1)))), ?_⟩
    refine ⟨_, rfl, _, rfl, a, C, [t], rfl, by show 1 ≤ 1000; decide, hC, ha, ?_⟩
    exact ⟨_, rfl, _, rfl, a, C, rfl, hC, hw, .inl ⟨ha, fun d nd da => q d nd da⟩⟩
abbrev i_BadBit : Stmt := inClass s_BadBit 0
theorem sc_i_BadBit : FnScope ["self", "at"] ["self", "at"] (defScope i_BadBit) := ⟨rfl, rfl, rfl, by decide +kernel, rfl, by decide +kernel, by decide +kernel⟩
theorem ok_i_BadBit {f fL C CL : Addr} {fd fdL : FuncData} {k : Nat} (F : Fun K "__init__" "BadBit.__init__" i_BadBit f fd) (TL : ClsFn K mg "LineError" "__init__" CL fL) (FL : FnOk P w K mg base CX0 k fL fdL ["self", "word", "text"] (spLE K)) (bL : Binds K fdL ["self", "word", "text"] [])
    (hC : OexC K C) (hw : PySem.W.findIn K (.ref C) "word" = some none) (hf : PySem.W.findIn K (.ref C) "at" = some none) : FnOk P w K mg base CX0 (k + 1) f fd ["self", "at"] (spIni K C "BadBit" "at") := by
  have sc := sc_i_BadBit
  refine F.ok sc (fun vs H Q E h => ?_) (fun cdv A outer s H vs Q E hr h => ?_)
  · obtain ⟨a, i, rfl, _⟩ := h
    rfl
  · obtain ⟨a, i, rfl, hi, ha, q⟩ := h
    refine ⟨_, (pss_cons (ps_expr (pe_clsfn TL FL hr bL pass0 (by rfl) (pa_cons (pv 0) (pa_cons pe_str (pa_cons (pe_joined (.cons pe_str (.cons (pe_fmt (pv 1)) .nil))) pa_nil))))) (pss_one (ps_ost (pv 0) (pv 1)))), ?_⟩
    refine ⟨_, rfl, _, rfl, (by decide +kernel), _, rfl, .inr ⟨i, rfl, by omega, _, rfl, txt_fits (by decide +kernel) hi, ?_⟩⟩
    refine ⟨a, C, _, _, rfl, hC, hw, ha, fun d nd da => ?_⟩
    refine ⟨_, rfl, _, rfl, a, C, rfl, hC, hf, .inr ⟨d, _, upd_same, ?_, by show 1 ≤ 900; decide, q d nd da⟩⟩
    rw [upd_ne da, upd_same]
abbrev i_BadCount : Stmt := inClass s_BadCount 0
theorem sc_i_BadCount : FnScope ["self"] ["self"] (defScope i_BadCount) := ⟨rfl, rfl, rfl, by decide +kernel, rfl, by decide +kernel, by decide +kernel⟩
theorem ok_i_BadCount {f fL C CL : Addr} {fd fdL : FuncData} {k : Nat} (F : Fun K "__init__" "BadCount.__init__" i_BadCount f fd) (TL : ClsFn K mg "LineError" "__init__" CL fL) (FL : FnOk P w K mg base CX0 k fL fdL ["self", "word", "text"] (spLE K)) (bL : Binds K fdL ["self", "word", "text"] [])
    (hC : OexC K C) (hw : PySem.W.findIn K (.ref C) "word" = some none) : FnOk P w K mg base CX0 (k + 1) f fd ["self"] (spIni0 K C "BadCount") := by
  have sc := sc_i_BadCount
  refine F.ok sc (fun vs H Q E h => ?_) (fun cdv A outer s H vs Q E hr h => ?_)
  · obtain ⟨a, rfl, _⟩ := h
    rfl
  · obtain ⟨a, rfl, ha, q⟩ := h
    refine ⟨_, (pss_one (ps_expr (pe_clsfn TL FL hr bL pass0 (by rfl) (pa_cons (pv 0) (pa_cons pe_str (pa_cons pe_str pa_nil)))))), ?_⟩
    exact ⟨_, rfl, a, C, _, _, rfl, hC, hw, ha, fun d nd da => q d nd da⟩
theorem sc_check_bits : FnScope ["bits", "at", "bit"] ["bits"] (defScope s_check_bits) := ⟨rfl, rfl, rfl, by decide +kernel, rfl, by decide +kernel, by decide +kernel⟩
/-- all of them are bits, or the first that is none -/
def spCheckX (K : PySem.W.Frag) (C : Addr) : Sp := fun vs H Q E => ∃ (a : Addr) (ns : List Int), vs = [.ref a] ∧ SqL K H a (ns.map V.int) ∧ ns.length ≤ 100000 ∧ (Bits ns → ∀ H', Same H H' → Q .non H') ∧
  (∀ (i : Nat) (z : Int), ns[i]? = some z → ¬ isB z → Bits (ns.take i) → ∀ H' d, Same H H' → H d = none → H' d = some (.xd [(("at" : Str), .int (i : Int)), (("word" : Str), .str "BadBit")]) → E (.ref C) (some d) H')
theorem log_le {n : Nat} (h : n ≤ 100000) : ((n : Int)).natAbs.log2 < 1000 := by
  rw [Int.natAbs_natCast]
  by_cases z : n = 0
  · subst z
    decide
  · exact (Nat.log2_lt z).mpr (Nat.lt_of_le_of_lt h (by decide))
theorem ok_check_bits {f C : Addr} {fd : FuncData} {k : Nat} (F : Fun K "check_bits" "check_bits" s_check_bits f fd) (n_enumerate : mg "enumerate" = none) (x_BadBit : XcOk P w K mg base k "BadBit" C (spIni K C "BadBit" "at")) : FnOk P w K mg base (L2.CX P w) (k + 2) f fd ["bits"] (spCheckX K C) := by
  have sc := sc_check_bits
  refine F.okX sc (fun vs H Q E h => ?_) (fun cdv A outer s H vs Q E hr h => ?_)
  · obtain ⟨a, ns, rfl, _⟩ := h
    rfl
  · obtain ⟨a, ns, rfl, hS, hl, q, qe⟩ := h
    refine ⟨_, (pss_one (ps_for (passes_of rfl) rfl (pi_enum (by rfl) n_enumerate (pa_cons (pv 0) pa_nil)) (pg_tup rfl (pgs_cons (pg_name (i := 1) sc.nd rfl (.inl rfl)) (pgs_cons (pg_name (i := 2) sc.nd rfl (.inl rfl)) pgs_nil)))
  (pss_one (ps_if (pt_cmpR (op_notInK K rfl) (pv 2) (pe_tup (pa_cons pe_int (pa_cons pe_int pa_nil))) (by rfl))
  (pss_one (ps_raise rfl (takes_of rfl rfl rfl rfl) (pmk_c x_BadBit hr (by rfl) (pa_cons (pv 1) pa_nil))))
  pss_nil)))), ?_⟩
    refine ⟨_, rfl, a, _, rfl, hS, for_enumK (xs := ns.map V.int) (fun i σ H' => ∃ y1 y2, σ = [some (.ref a), y1, y2] ∧ Same H H' ∧ Bits (ns.take i)) ⟨none, none, rfl, Same.refl H, bits_nil⟩ (fun i σ H' _ h => ?_) ?_ ?_⟩
    · obtain ⟨y1, y2, _, sm, _⟩ := h
      exact sm.seq hS
    · rintro i x T σ H' hx ⟨y1, y2, rfl, sm, hbi⟩ nT
      obtain ⟨z, hz, rfl⟩ := getI hx
      have s1 := sm.trans (same_upd (o := .tup [.int (i : Nat), .int z]) nT)
      refine ⟨T, _, rfl, SqT.of upd_same, rfl, _, _, rfl, _, _, rfl, rfl, ?_⟩
      refine ⟨_, rfl, (by show 2 ≤ sizeLine; decide), fun p np => ?_⟩
      have s2 := s1.trans (same_upd (o := .tup [.int 0, .int 1]) np)
      refine ⟨p, _, rfl, .inr (SqT.of upd_same), rfl, rfl, _, rfl, ite2 (fun e => ?_) (fun e => ?_)⟩
      · have e : (!inV (.int z) [.int 0, .int 1]) = true := e
        have nb : ¬ isB z := by
          rintro (rfl | rfl)
          · exact absurd e (by decide)
          · exact absurd e (by decide)
        have hil : i < ns.length := (List.getElem?_eq_some_iff.mp hz).1
        refine ⟨_, rfl, mk_inner (log_le (by omega)) (fun H3 d s3 nd ed => qe i z hz nb hbi H3 d (s2.trans s3) (s2.free nd) ed)⟩
      · have e : ¬ (!inV (.int z) [.int 0, .int 1]) = true := e
        have yb : isB z := by
          have hh : inV (.int z) (([0, 1] : List Int).map V.int) = true := by
            cases q : inV (.int z) [.int 0, .int 1] with
            | true => exact q
            | false => rw [q] at e; exact absurd rfl e
          rw [inV_ints] at hh
          have := of_decide_eq_true hh
          simpa [isB] using this
        refine ⟨_, _, rfl, s2, ?_⟩
        rw [take_more hz]
        exact bits_app hbi (bits_one yb)
    · rintro σ H' ⟨y1, y2, rfl, sm, hbi⟩
      rw [List.length_map, List.take_length] at hbi
      exact q hbi H' sm
/-! ### numbers in bits -/
def bn (bs : List Int) : Int := bs.foldl (fun n b => 2 * n + b) 0
theorem bn_more {bs : List Int} {i : Nat} {b : Int} (h : bs[i]? = some b) : bn (bs.take (i + 1)) = 2 * bn (bs.take i) + b := by
  unfold bn
  rw [take_more h, List.foldl_append]
  rfl
theorem bn_acc (n : Nat) : ∀ (i : Nat) (c : Int), (wr i (n : Int)).foldl (fun n b => 2 * n + b) c = c * 2 ^ i + ((n % 2 ^ i : Nat) : Int)
  | 0, c => by
    show c = c * 1 + ((n % 1 : Nat) : Int)
    rw [Nat.mod_one]
    omega
  | i + 1, c => by
    show (wr i (n : Int)).foldl _ (2 * c + ((n : Int) / 2 ^ i) % 2) = _
    rw [bn_acc n i]
    have e : ((n : Int) / 2 ^ i) % 2 = ((n / 2 ^ i % 2 : Nat) : Int) := by
      rw [Int.natCast_emod, Int.natCast_ediv, Int.natCast_pow]
      rfl
    rw [e, Nat.mod_pow_succ, Int.natCast_add, Int.natCast_mul, Int.natCast_pow, Int.pow_succ, Int.add_mul]
    have e2 : (2 * c) * 2 ^ i = c * (2 ^ i * 2) := by
      rw [Int.mul_comm 2 c, Int.mul_assoc, Int.mul_comm 2 (2 ^ i)]
    rw [e2]
    have e3 : ((n / 2 ^ i % 2 : Nat) : Int) * 2 ^ i = (2 : Int) ^ i * ((n / 2 ^ i % 2 : Nat) : Int) := Int.mul_comm _ _
    show _ + ((n / 2 ^ i % 2 : Nat) : Int) * 2 ^ i + ((n % 2 ^ i : Nat) : Int) = _ + (((n % 2 ^ i : Nat) : Int) + (2 : Int) ^ i * ((n / 2 ^ i % 2 : Nat) : Int))
    rw [e3]
    omega
theorem bn_wr {n : Int} {i : Nat} (h0 : 0 ≤ n) (h1 : n < 2 ^ i) : bn (wr i n) = n := by
  obtain ⟨m, rfl⟩ : ∃ m : Nat, n = (m : Int) := ⟨n.toNat, by omega⟩
  unfold bn
  rw [bn_acc, Nat.mod_eq_of_lt (by exact_mod_cast h1)]
  omega
theorem pow64 {k : Nat} (h : k ≤ 64) : (1 : Int) ≤ 2 ^ k ∧ (2 : Int) ^ k ≤ 18446744073709551616 := by
  have h1 : (2 : Nat) ^ k ≤ 18446744073709551616 := Nat.le_trans (Nat.pow_le_pow_right (by decide) h) (by decide)
  have h2 : 1 ≤ (2 : Nat) ^ k := Nat.one_le_two_pow
  have e : ((2 ^ k : Nat) : Int) = (2 : Int) ^ k := Int.natCast_pow 2 k
  rw [← e]
  generalize 2 ^ k = x at h1 h2 ⊢
  omega
theorem lt_of_div {n : Int} {k : Nat} (h : n / 2 ^ k = 0) : n < 2 ^ k := by
  have h1 := Int.mul_ediv_add_emod n (2 ^ k)
  rw [h, Int.mul_zero, Int.zero_add] at h1
  have := Int.emod_lt_of_pos n (b := 2 ^ k) (Int.pow_pos (by decide))
  omega
theorem sc_number_bits : FnScope ["number", "many", "place"] ["number", "many"] (defScope s_number_bits) := ⟨rfl, rfl, rfl, by decide +kernel, rfl, by decide +kernel, by decide +kernel⟩
def spNbX (cN : Addr) : Sp := fun vs H Q E => ∃ (n mm : Int), vs = [.int n, .int mm] ∧
  (∀ m : Nat, mm = (m : Int) → m ≤ 64 → 0 ≤ n → n < 2 ^ m → ∀ (H' : Hp) (p : Addr), Same H H' → H p = none → H' p = some (.lst ((wr m n).map V.int)) → Q (.ref p) H') ∧
  (mm < 0 ∨ 64 < mm ∨ n < 0 ∨ 2 ^ mm.toNat ≤ n → ∀ H' d, Same H H' → H d = none → H' d = some (.xd [(("word" : Str), .str "BadCount")]) → E (.ref cN) (some d) H')
theorem wr_get : ∀ (m : Nat) (n : Int) (i : Nat), i < m → (wr m n)[i]? = some (n / 2 ^ (m - 1 - i) % 2)
  | m + 1, n, 0, _ => by
    show some (n / 2 ^ m % 2) = _
    rfl
  | m + 1, n, i + 1, h => by
    show (wr m n)[i]? = _
    rw [wr_get m n i (by omega), show m + 1 - 1 - (i + 1) = m - 1 - i by omega]
theorem lc_rngC {lo c : Int} {n : Nat} {g : TG} {tt : TT} {te : TE} {vs : List Nat} {σ : L2.St} {H1 : Hp} {D : Addr} {Qd : Hp → Prop} (Pv : Nat → Hp → Prop) (p0 : Pv 0 (upd H1 D (.lst [])))
    (ps : ∀ i H, i < n → Pv i H → g (.int (lo + (i : Nat) * c)) (wipe σ vs) H fun σ2 H2 => wipe σ2 vs = wipe σ vs ∧ tt σ2 H2 fun b H3 =>
      if b = true then te σ2 H3 fun y H4 => ∃ acc, H4 D = some (.lst acc) ∧ acc.length < sizeLine ∧ Pv (i + 1) (upd H4 D (.lst (acc ++ [y]))) else Pv (i + 1) H3) (pd : ∀ H, Pv n H → Qd H) :
    ∃ W : Nat → Nat → Hp → Prop, (∃ m, W 0 m (upd H1 D (.lst []))) ∧ ∀ i m H, W i m H →
      ((Itc lo c n).stop i H ∧ Qd H) ∨ ((Itc lo c n).go i H ∧ ∃ Nx : Hp → Prop, (∀ H', Nx H' → ∃ m', m' < m ∧ W (i + 1) m' H') ∧ ∀ y H', (Itc lo c n).yld i H y H' → g y (wipe σ vs) H' fun σ2 H2 => wipe σ2 vs = wipe σ vs ∧ tt σ2 H2 fun b H3 =>
        if b = true then te σ2 H3 fun y H4 => ∃ acc, H4 D = some (.lst acc) ∧ acc.length < sizeLine ∧ Nx (upd H4 D (.lst (acc ++ [y]))) else Nx H3) := by
  refine ⟨fun i m H => m = n - i ∧ i ≤ n ∧ Pv i H, ⟨_, rfl, Nat.zero_le _, p0⟩, fun i m H hw => ?_⟩
  obtain ⟨rfl, hi, p⟩ := hw
  by_cases hlt : i < n
  · refine .inr ⟨hlt, Pv (i + 1), fun H' p' => ⟨n - (i + 1), by omega, rfl, hlt, p'⟩, fun y H' hy => ?_⟩
    obtain ⟨rfl, rfl⟩ := hy
    exact ps i _ hlt p
  · obtain rfl : i = n := by omega
    exact .inl ⟨Nat.le_refl _, pd H p⟩
theorem ok_number_bits {f cN : Addr} {fd : FuncData} {k : Nat} {tM : Tok} (F : Fun K "number_bits" "number_bits" s_number_bits f fd) (n_range : mg "range" = none) (g_MOST_BITS : mg "MOST_BITS" = some (.int 64 tM)) (x_BadCount : XcOk P w K mg base k "BadCount" cN (spIni0 K cN "BadCount")) : FnOk P w K mg base (L2.CX P w) (k + 2) f fd ["number", "many"] (spNbX cN) := by
  have sc := sc_number_bits
  refine F.okX sc (fun vs H Q E h => ?_) (fun cdv A outer s H vs Q E hr h => ?_)
  · obtain ⟨n, m, rfl, _⟩ := h
    rfl
  · obtain ⟨n, mm, rfl, q', qn⟩ := h
    refine ⟨_, (pss_cons (ps_if (PW.pt (pw_or (pt_cmpR op_lt (pv 1) pe_int (nomark _)) (pw_or (pt_cmpR op_gt (pv 1) (pe_glob (v := .int 64) (by rfl) g_MOST_BITS ⟨_, rfl⟩) (nomark _)) (pw_or (pt_cmpR op_lt (pv 0) pe_int (nomark _)) (pw_or1 (pt_cmpR op_ne (pe_op op_shr (pv 0) (pv 1)) pe_int (nomark _)))))))
  (pss_one (ps_raise rfl (takes_of rfl rfl rfl rfl) (pmk_c0 x_BadCount hr (by rfl))))
  pss_nil)
 (pss_one (ps_ret (pe_lc (own := [("place", 2)]) (g := gName 2) (by rfl) sc.nd (pi_range3 (by rfl) n_range (pa_cons (pe_op op_sub (pv 1) pe_int) (pa_cons (pe_un un_neg pe_int) (pa_cons (pe_un un_neg pe_int) pa_nil)))) (blkOk_by (own := [("place", 2)]) (N := ["number", "many", "place"]) (sc := defScope s_number_bits) (by decide +kernel)) (fun _ _ _ _ _ => pg_name (i := 2) sc.nd rfl (Or.inl rfl)) (fun _ _ _ _ _ => pts_nil) (fun _ _ _ _ _ => (pe_op op_and (pe_op op_shr (pv 0) (pv 2)) pe_int)))))), ?_⟩
    refine ⟨_, rfl, _, _, rfl, rfl, _, rfl, ite2 (fun e => ?_) (fun e1 => ?_)⟩
    · have e : mm < 0 := of_decide_eq_true e
      exact mk_inner0 (fun H3 d s3 nd ed => qn (.inl e) H3 d s3 nd ed)
    have e1 : ¬ mm < 0 := fun h => e1 (decide_eq_true h)
    refine ⟨_, rfl, _, _, rfl, rfl, _, rfl, ite2 (fun e => ?_) (fun e2 => ?_)⟩
    · have e : 64 < mm := of_decide_eq_true e
      exact mk_inner0 (fun H3 d s3 nd ed => qn (.inr (.inl e)) H3 d s3 nd ed)
    have e2 : ¬ 64 < mm := fun h => e2 (decide_eq_true h)
    refine ⟨_, rfl, _, _, rfl, rfl, _, rfl, ite2 (fun e => ?_) (fun e3 => ?_)⟩
    · have e : n < 0 := of_decide_eq_true e
      exact mk_inner0 (fun H3 d s3 nd ed => qn (.inr (.inr (.inl e))) H3 d s3 nd ed)
    have e3 : ¬ n < 0 := fun h => e3 (decide_eq_true h)
    obtain ⟨m, rfl⟩ : ∃ m : Nat, mm = (m : Int) := ⟨mm.toNat, by omega⟩
    refine ⟨_, rfl, _, rfl, _, _, rfl, rfl, by omega, rfl, _, rfl, ite2 (fun e => ?_) (fun e4 => ?_)⟩
    · have e : (!decide (V.int (n / 2 ^ (m : Int).toNat) = V.int 0)) = true := e
      have e5 : 2 ^ (m : Int).toNat ≤ n := by
        rcases Int.lt_or_le n (2 ^ (m : Int).toNat) with h | h
        · exfalso
          rw [Int.ediv_eq_zero_of_lt (by omega) h] at e
          exact absurd e (by decide)
        · exact h
      exact mk_inner0 (fun H3 d s3 nd ed => qn (.inr (.inr (.inr e5))) H3 d s3 nd ed)
    have e4 : ¬ (!decide (V.int (n / 2 ^ (m : Int).toNat) = V.int 0)) = true := e4
    have hn1 : n < 2 ^ m := by
      refine lt_of_div ?_
      rw [Int.toNat_natCast] at e4
      by_cases z : n / 2 ^ m = 0
      · exact z
      · exfalso
        refine e4 ?_
        rw [decide_eq_false (fun y => z (V.int.inj y))]
        rfl
    have hn0 : 0 ≤ n := by omega
    have hm : m ≤ 64 := by omega
    have q := q' m rfl hm hn0 hn1
    refine ⟨_, rfl, _, _, rfl, rfl, 1, rfl, 1, rfl, (m : Int) - 1, -1, -1, ((m : Int) - 1 - -1).toNat, rfl, RgC.neg (by omega) (by omega) (by decide) (by decide), fun D nD => ?_⟩
    rw [show ((m : Int) - 1 - -1).toNat = m by omega]
    refine lc_rngC (fun i H' => Same H H' ∧ H' D = some (.lst (((wr m n).take i).map V.int))) ⟨same_upd nD, upd_same⟩ ?_ ?_
    · rintro i H' hi ⟨sm, eD⟩
      refine ⟨rfl, tYes_by (iteT ?_)⟩
      have ep : (m : Int) - 1 + (i : Int) * -1 = ((m - 1 - i : Nat) : Int) := by omega
      refine ⟨_, rfl, _, rfl, _, _, rfl, rfl, by omega, _, _, rfl, rfl, _, eD, ?_, same_mut sm nD, ?_⟩
      · rw [List.length_map, List.length_take, wr_len]
        exact sz4l (by omega)
      · rw [upd_same, take_more (wr_get m n i hi), List.map_append]
        have e1 : Builtin.bitAnd (n / 2 ^ ((m : Int) - 1 + (i : Int) * -1).toNat) 1 = n / 2 ^ (m - 1 - i) % 2 := by
          rw [ep, Int.toNat_natCast]
          have h1 : 0 ≤ n / 2 ^ (m - 1 - i) := Int.ediv_nonneg hn0 (Int.pow_nonneg (by decide))
          have := _root_.Bits.bitAnd_mask (x := n / 2 ^ (m - 1 - i)) 1 h1
          exact this
        show _ = some (HO.lst (_ ++ [V.int _]))
        rw [← e1]
    · rintro H' ⟨sm, eD⟩
      rw [List.take_of_length_le (by rw [wr_len]; exact Nat.le_refl _)] at eD
      exact q H' D sm nD eD
theorem sc_bits_number : FnScope ["bits", "number", "bit"] ["bits"] (defScope s_bits_number) := ⟨rfl, rfl, rfl, by decide +kernel, rfl, by decide +kernel, by decide +kernel⟩
def spBnX (K : PySem.W.Frag) (cB cN : Addr) : Sp := fun vs H Q E => ∃ (a : Addr) (ns : List Int), vs = [.ref a] ∧ SqL K H a (ns.map V.int) ∧ ns.length ≤ 10000 ∧
  (Bits ns → ns.length ≤ 64 → ∀ H', Same H H' → Q (.int (bn ns)) H') ∧
  (Bits ns → 64 < ns.length → ∀ H' d, Same H H' → H d = none → H' d = some (.xd [(("word" : Str), .str "BadCount")]) → E (.ref cN) (some d) H') ∧
  (∀ (i : Nat) (z : Int), ns[i]? = some z → ¬ isB z → Bits (ns.take i) → ∀ H' d, Same H H' → H d = none → H' d = some (.xd [(("at" : Str), .int (i : Int)), (("word" : Str), .str "BadBit")]) → E (.ref cB) (some d) H')
theorem ok_bits_number {f cB cN : Addr} {fd : FuncData} {k : Nat} {tM : Tok} (F : Fun K "bits_number" "bits_number" s_bits_number f fd) (n_len : mg "len" = none) (g_MOST_BITS : mg "MOST_BITS" = some (.int 64 tM)) (x_BadCount : XcOk P w K mg base k "BadCount" cN (spIni0 K cN "BadCount")) (c_check_bits : CalX P w K mg base (k + 1) "check_bits" ["bits"] (spCheckX K cB)) : FnOk P w K mg base (L2.CX P w) (k + 2) f fd ["bits"] (spBnX K cB cN) := by
  have sc := sc_bits_number
  refine F.okX sc (fun vs H Q E h => ?_) (fun cdv A outer s H vs Q E hr h => ?_)
  · obtain ⟨a, ns, rfl, _⟩ := h
    rfl
  · obtain ⟨a, ns, rfl, hS, hl, q, qn, qb⟩ := h
    refine ⟨_, (pss_cons (ps_expr (pe_callP c_check_bits hr (passes_call (takes_of rfl rfl rfl rfl) (fun _ _ _ _ h => h)) (by rfl) (pa_cons (pv 0) pa_nil)))
 (pss_cons (ps_if (pt_cmpR op_gt (pe_callB (call_lenK K rfl) (by rfl) n_len PySem.boot_len (pa_cons (pv 0) pa_nil)) (pe_glob (v := .int 64) (by rfl) g_MOST_BITS ⟨_, rfl⟩) (nomark _))
  (pss_one (ps_raise rfl (takes_of rfl rfl rfl rfl) (pmk_c0 x_BadCount hr (by rfl))))
  pss_nil)
 (pss_cons (ps_set (i := 1) sc.nd rfl (.inl rfl) pe_int)
 (pss_cons (ps_for (passes_of rfl) rfl (pi_listK K rfl (pv 0)) (pg_name (i := 2) sc.nd rfl (.inl rfl))
  (pss_one (ps_set (i := 1) sc.nd rfl (.inl rfl) (pe_op op_add (pe_op op_mul pe_int (pv 1)) (pv 2)))))
 (pss_one (ps_ret (pv 1))))))), ?_⟩
    refine ⟨_, rfl, a, ns, rfl, hS, by omega, fun hB H1 s1 => ?_, qb⟩
    refine ⟨_, rfl, a, _, rfl, .inl (s1.seq hS), _, _, rfl, rfl, _, rfl, ite2 (fun e => ?_) (fun e => ?_)⟩
    · have e : (64 : Int) < ((ns.map V.int).length : Int) := of_decide_eq_true e
      rw [List.length_map] at e
      exact mk_inner0 (fun H3 d s3 nd ed => qn hB (by omega) H3 d (s1.trans s3) (s1.free nd) ed)
    have e : ¬ (64 : Int) < ((ns.map V.int).length : Int) := fun h => e (decide_eq_true h)
    rw [List.length_map] at e
    refine ⟨_, rfl, a, rfl, ⟨_, s1.seq hS⟩, for_list (K := K) (a := a) (xs := ns.map V.int) (fun i σ H' => ∃ y, σ = [some (.ref a), some (.int (bn (ns.take i))), y] ∧ H' = H1) ⟨none, rfl, rfl⟩ (fun i σ H' _ h => ?_) ?_ ?_⟩
    · obtain ⟨_, _, rfl⟩ := h
      exact s1.seq hS
    · rintro i x σ H' hx ⟨y, rfl, rfl⟩
      obtain ⟨z, hz, rfl⟩ := getI hx
      refine ⟨_, rfl, _, _, rfl, rfl, .inl ⟨by decide, by decide⟩, _, rfl, _, _, rfl, rfl, some (.int z), ?_, rfl⟩
      rw [bn_more hz]
      rfl
    · rintro σ H' ⟨y, rfl, rfl⟩
      rw [List.length_map, List.take_length]
      exact ⟨_, rfl, q hB (by omega) _ s1⟩
/-! ### scramblers: the mathematics -/
def outB (c : List Int) (b : Int) : Int := (b + c.getD 3 0 + c.getD 6 0) % 2
def nxtC (kp : Bool) (c : List Int) (b : Int) : List Int := (if kp = true then outB c b else b) :: c.take 6
def scC (kp : Bool) (c bs : List Int) : List Int := bs.foldl (nxtC kp) c
def scO (kp : Bool) : List Int → List Int → List Int
  | _, [] => []
  | c, b :: r => outB c b :: scO kp (nxtC kp c b) r
def Cells (c : List Int) : Prop := c.length = 7 ∧ Bits c
theorem outB_bit (c : List Int) (b : Int) : isB (outB c b) := by
  unfold outB isB
  omega
theorem nxt_cells {kp : Bool} {c : List Int} {b : Int} (h : Cells c) (hb : isB b) : Cells (nxtC kp c b) := by
  refine ⟨?_, fun z hz => ?_⟩
  · show (c.take 6).length + 1 = 7
    rw [List.length_take, h.1]
    rfl
  · rcases List.mem_cons.mp hz with rfl | hz
    · split
      · exact outB_bit c b
      · exact hb
    · exact h.2 z (List.mem_of_mem_take hz)
theorem scC_more {kp : Bool} {c bs : List Int} {i : Nat} {b : Int} (h : bs[i]? = some b) : scC kp c (bs.take (i + 1)) = nxtC kp (scC kp c (bs.take i)) b := by
  unfold scC
  rw [take_more h, List.foldl_append]
  rfl
theorem scO_app (kp : Bool) : ∀ (as bs c : List Int), scO kp c (as ++ bs) = scO kp c as ++ scO kp (scC kp c as) bs
  | [], bs, c => rfl
  | a :: as, bs, c => by
    show outB c a :: scO kp (nxtC kp c a) (as ++ bs) = outB c a :: (scO kp (nxtC kp c a) as ++ scO kp (scC kp (nxtC kp c a) as) bs)
    rw [scO_app kp as bs]
theorem scC_app (kp : Bool) (as bs c : List Int) : scC kp c (as ++ bs) = scC kp (scC kp c as) bs := by
  unfold scC
  rw [List.foldl_append]
theorem scO_more {kp : Bool} {c bs : List Int} {i : Nat} {b : Int} (h : bs[i]? = some b) : scO kp c (bs.take (i + 1)) = scO kp c (bs.take i) ++ [outB (scC kp c (bs.take i)) b] := by
  rw [take_more h, scO_app]
  rfl
theorem scO_len (kp : Bool) : ∀ (bs c : List Int), (scO kp c bs).length = bs.length
  | [], c => rfl
  | b :: r, c => congrArg (· + 1) (scO_len kp r _)
theorem scO_bits (kp : Bool) : ∀ (bs c : List Int), Bits (scO kp c bs)
  | [], c => bits_nil
  | b :: r, c => fun z hz => by
    rcases List.mem_cons.mp hz with rfl | hz
    · exact outB_bit c b
    · exact scO_bits kp r _ z hz
theorem scC_cells {kp : Bool} : ∀ {bs c : List Int}, Cells c → Bits bs → Cells (scC kp c bs)
  | [], c, h, _ => h
  | b :: r, c, h, hb => scC_cells (bs := r) (nxt_cells h (bits_cons hb).1) (bits_cons hb).2
theorem cells_wr (n : Int) : Cells (wr 7 n) := ⟨wr_len 7 n, wr_bits 7 n⟩
theorem xor_bits {x y : Int} (hx : isB x) (hy : isB y) : Builtin.bitXor x y = (x + y) % 2 := by
  rcases hx with rfl | rfl <;> rcases hy with rfl | rfl <;> decide
theorem xor_out {c : List Int} {b : Int} (h : Cells c) (hb : isB b) : Builtin.bitXor (Builtin.bitXor b (c.getD 3 0)) (c.getD 6 0) = outB c b := by
  have h3 : isB (c.getD 3 0) := by
    rw [List.getD_eq_getElem?_getD, List.getElem?_eq_getElem (by rw [h.1]; decide)]
    exact h.2 _ (List.getElem_mem _)
  have h6 : isB (c.getD 6 0) := by
    rw [List.getD_eq_getElem?_getD, List.getElem?_eq_getElem (by rw [h.1]; decide)]
    exact h.2 _ (List.getElem_mem _)
  rw [xor_bits hb h3, xor_bits (by unfold isB; omega) h6]
  unfold outB
  omega
theorem cells_at {c : List Int} (h : Cells c) (i : Nat) (hi : i < 7) : (c.map V.int)[i]? = some (.int (c.getD i 0)) := by
  rw [List.getElem?_map, List.getElem?_eq_getElem (by rw [h.1]; exact hi), List.getD_eq_getElem?_getD, List.getElem?_eq_getElem (by rw [h.1]; exact hi)]
  rfl
/-- bits to a number and back -/
theorem bn_acc_lt : ∀ (bs : List Int) (c : Int), Bits bs → 0 ≤ c → 0 ≤ bs.foldl (fun n b => 2 * n + b) c ∧ bs.foldl (fun n b => 2 * n + b) c < (c + 1) * 2 ^ bs.length
  | [], c, _, hc => by
    show 0 ≤ c ∧ c < (c + 1) * 1
    omega
  | b :: r, c, h, hc => by
    have hb := (bits_cons h).1
    have ih := bn_acc_lt r (2 * c + b) (bits_cons h).2 (by rcases hb with rfl | rfl <;> omega)
    refine ⟨ih.1, Int.lt_of_lt_of_le ih.2 ?_⟩
    rw [List.length_cons, Int.pow_succ, Int.mul_comm (2 ^ r.length) 2, ← Int.mul_assoc]
    exact Int.mul_le_mul_of_nonneg_right (by rcases hb with rfl | rfl <;> omega) (Int.pow_nonneg (by decide))
theorem bn_lt {bs : List Int} (h : Bits bs) : 0 ≤ bn bs ∧ bn bs < 2 ^ bs.length := by
  have := bn_acc_lt bs 0 h (Int.le_refl _)
  unfold bn
  omega
theorem bn_cons (b : Int) (r : List Int) : ∀ c : Int, r.foldl (fun n b => 2 * n + b) c = c * 2 ^ r.length + bn r := by
  induction r with
  | nil => intro c; show c = c * 1 + 0; omega
  | cons x r ih =>
    intro c
    show r.foldl _ (2 * c + x) = c * 2 ^ (r.length + 1) + r.foldl _ (2 * 0 + x)
    rw [ih, ih (2 * 0 + x), Int.pow_succ, Int.add_mul, Int.add_mul, Int.mul_comm 2 c, Int.mul_assoc, Int.mul_comm 2 (2 ^ r.length)]
    omega
theorem wr_bn : ∀ (bs : List Int), Bits bs → ∀ c : Int, wr bs.length (c * 2 ^ bs.length + bn bs) = bs
  | [], _, _ => rfl
  | b :: r, h, c => by
    have hb := (bits_cons h).1
    have hl := bn_lt (bits_cons h).2
    have e : bn (b :: r) = b * 2 ^ r.length + bn r := by
      show r.foldl _ (2 * 0 + b) = _
      rw [bn_cons b r]
      congr 1
      congr 1
      omega
    have e2 : c * 2 ^ (b :: r).length + bn (b :: r) = (2 * c + b) * 2 ^ r.length + bn r := by
      rw [e, List.length_cons, Int.pow_succ, Int.add_mul, Int.mul_comm 2 c, Int.mul_assoc, Int.mul_comm 2 (2 ^ r.length)]
      omega
    rw [e2]
    show ((2 * c + b) * 2 ^ r.length + bn r) / 2 ^ r.length % 2 :: wr r.length _ = _
    rw [wr_bn r (bits_cons h).2]
    congr 1
    have hp : (0 : Int) < 2 ^ r.length := Int.pow_pos (by decide)
    rw [Int.add_comm, Int.add_mul_ediv_right _ _ (by omega), Int.ediv_eq_zero_of_lt hl.1 hl.2]
    rcases hb with rfl | rfl <;> omega
theorem wr_bn7 {c : List Int} (h : Cells c) : wr 7 (bn c) = c := by
  have := wr_bn c h.2 0
  rw [h.1] at this
  rwa [Int.zero_mul, Int.zero_add] at this
theorem sc_pushed_through : FnScope ["cells", "bits", "keeps_out", "out", "bit", "told", "kept"] ["cells", "bits", "keeps_out"] (defScope s_pushed_through) := ⟨rfl, rfl, rfl, by decide +kernel, rfl, by decide +kernel, by decide +kernel⟩
def spPT (K : PySem.W.Frag) (cB : Addr) : Sp := fun vs H Q E => ∃ (l a : Addr) (kp : Bool) (c ns : List Int), vs = [.ref l, .ref a, .bl kp] ∧ H l = some (.lst (c.map V.int)) ∧ SqL K H a (ns.map V.int) ∧ Cells c ∧ ns.length ≤ 10000 ∧
  (Bits ns → ∀ (H' : Hp) (p o l' : Addr), Same H H' → H p = none → H' p = some (.tup [.ref o, .ref l']) → H o = none → H' o = some (.lst ((scO kp c ns).map V.int)) → (l' = l ∨ H l' = none) → H' l' = some (.lst ((scC kp c ns).map V.int)) → o ≠ l' → Q (.ref p) H') ∧
  (∀ (i : Nat) (z : Int), ns[i]? = some z → ¬ isB z → Bits (ns.take i) → ∀ H' d, Same H H' → H d = none → H' d = some (.xd [(("at" : Str), .int (i : Int)), (("word" : Str), .str "BadBit")]) → E (.ref cB) (some d) H')
theorem ok_pushed_through {f cB : Addr} {fd : FuncData} {k : Nat} {t3 t6 : Tok} (F : Fun K "pushed_through" "pushed_through" s_pushed_through f fd) (g_FOURTH : mg "FOURTH" = some (.int 3 t3)) (g_SEVENTH : mg "SEVENTH" = some (.int 6 t6)) (c_check_bits : CalX P w K mg base k "check_bits" ["bits"] (spCheckX K cB)) :
    FnOk P w K mg base (L2.CX P w) (k + 1) f fd ["cells", "bits", "keeps_out"] (spPT K cB) := by
  have sc := sc_pushed_through
  refine F.okX sc (fun vs H Q E h => ?_) (fun cdv A outer s H vs Q E hr h => ?_)
  · obtain ⟨l, a, kp, c, ns, rfl, _⟩ := h
    rfl
  · obtain ⟨l, a, kp, c, ns, rfl, hl, hS, hc, hlen, q, qe⟩ := h
    refine ⟨_, (pss_cons (ps_expr (pe_callP c_check_bits hr (passes_call (takes_of rfl rfl rfl rfl) (fun _ _ _ _ h => h)) (by rfl) (pa_cons (pv 1) pa_nil)))
 (pss_cons (ps_set (i := 3) sc.nd rfl (.inl rfl) (pe_lst pa_nil))
 (pss_cons (ps_for (passes_of rfl) rfl (pi_listK K rfl (pv 1)) (pg_name (i := 4) sc.nd rfl (.inl rfl))
  (pss_cons (ps_set (i := 5) sc.nd rfl (.inl rfl) (pe_op op_xor (pe_op op_xor (pv 4) (pe_ix (ix_listK K rfl) (pv 0) (pe_glob (v := .int 3) (by rfl) g_FOURTH ⟨_, rfl⟩) (fun _ _ => rfl))) (pe_ix (ix_listK K rfl) (pv 0) (pe_glob (v := .int 6) (by rfl) g_SEVENTH ⟨_, rfl⟩) (fun _ _ => rfl))))
 (pss_cons (ps_expr (pe_bmK K rfl PySem.F.plainAttrs_list PySem.F.slot_list_append PySem.F.type_list_append mt_append (pv 3) (pa_cons (pv 5) pa_nil)))
 (pss_cons (ps_set (i := 6) sc.nd rfl (.inl rfl) (pe_ifExp (pt_val (pv 2)) (pv 5) (pv 4)))
 (pss_one (ps_set (i := 0) sc.nd rfl (.inl rfl) (pe_op op_cat (pe_lst (pa_cons (pv 6) pa_nil)) (pe_slice (sl_listK K rfl) (pv 0) po_none (po_some (pe_un un_neg pe_int))))))))))
 (pss_one (ps_ret (pe_tup (pa_cons (pv 3) (pa_cons (pv 0) pa_nil)))))))), ?_⟩
    refine ⟨_, rfl, a, ns, rfl, hS, by omega, fun hB H1 s1 => ?_, qe⟩
    refine ⟨Nat.zero_le _, fun o no => ?_⟩
    have no0 : H o = none := s1.free no
    have s2 := s1.trans (same_upd (o := .lst []) no)
    refine ⟨_, rfl, a, rfl, ⟨_, s2.seq hS⟩, for_list (K := K) (a := a) (xs := ns.map V.int) (fun i σ H' => ∃ (l' : Addr) (y4 y5 y6 : Option V), σ = [some (.ref l'), some (.ref a), some (.bl kp), some (.ref o), y4, y5, y6] ∧ Same H H' ∧ H' o = some (.lst ((scO kp c (ns.take i)).map V.int)) ∧
      H' l' = some (.lst ((scC kp c (ns.take i)).map V.int)) ∧ (l' = l ∨ H l' = none) ∧ o ≠ l') ⟨l, none, none, none, rfl, s2, upd_same, s2 _ _ hl, .inl rfl, (ne_of_none hl no0).symm⟩ (fun i σ H' _ h => ?_) ?_ ?_⟩
    · obtain ⟨_, _, _, _, _, sm, _⟩ := h
      exact sm.seq hS
    · rintro i x σ H2 hx ⟨l', y4, y5, y6, rfl, sm, eo, el, hl', nol⟩
      obtain ⟨z, hz, rfl⟩ := getI hx
      have hzb : isB z := hB z (List.mem_of_getElem? hz)
      have hcc : Cells (scC kp c (ns.take i)) := scC_cells hc (bits_take hB _)
      have hil : i < ns.length := (List.getElem?_eq_some_iff.mp hz).1
      have hol := scO_len kp (ns.take i) c
      rw [List.length_take] at hol
      rw [scC_more hz, scO_more hz]
      generalize scC kp c (ns.take i) = cc at *
      generalize scO kp c (ns.take i) = oo at *
      refine ⟨_, rfl, _, rfl, l', _, _, _, rfl, rfl, SqL.of el, atI_nat (cells_at hcc 3 (by decide)), _, _, rfl, rfl, _, rfl, l', _, _, _, rfl, rfl, SqL.of el, atI_nat (cells_at hcc 6 (by decide)), _, _, rfl, rfl, ?_⟩
      refine name_by ?_
      dsimp only
      rw [xor_out hcc hzb]
      refine ⟨_, rfl, .inl ⟨rfl, _, SqL.of eo⟩, _, rfl, o, _, _, rfl, rfl, eo, ?_, ?_⟩
      · rw [List.length_map]
        exact sz4l (by omega)
      have sm2 : Same H (upd H2 o (.lst (oo.map V.int ++ [.int (outB cc z)]))) := same_mut sm no0
      have eo2 : upd H2 o (.lst (oo.map V.int ++ [.int (outB cc z)])) o = some (.lst ((oo ++ [outB cc z]).map V.int)) := by
        rw [upd_same, List.map_append]
        rfl
      have el2 : upd H2 o (.lst (oo.map V.int ++ [.int (outB cc z)])) l' = some (.lst (cc.map V.int)) := by
        rw [upd_ne nol.symm]
        exact el
      generalize upd H2 o (.lst (oo.map V.int ++ [.int (outB cc z)])) = H3 at sm2 eo2 el2 ⊢
      dsimp only
      refine asg_by (J := fun v H4 => v = .int (if kp = true then outB cc z else z) ∧ H4 = H3) ?_ (fun rest => ?_)
      · rintro v H4 ⟨rfl, rfl⟩
        refine ⟨_, rfl, (by show 1 ≤ sizeLine; decide), fun p1 n1 => ?_⟩
        have s3 := sm2.trans (same_upd (o := .lst [.int (if kp = true then outB cc z else z)]) n1)
        have el3 := same_upd (o := .lst [.int (if kp = true then outB cc z else z)]) n1 _ _ el2
        have eo3 := same_upd (o := .lst [.int (if kp = true then outB cc z else z)]) n1 _ _ eo2
        have ep3 : upd H4 p1 (.lst [.int (if kp = true then outB cc z else z)]) p1 = some (.lst [.int (if kp = true then outB cc z else z)]) := upd_same
        generalize upd H4 p1 (.lst [.int (if kp = true then outB cc z else z)]) = H5 at s3 el3 eo3 ep3 ⊢
        refine ⟨_, rfl, 1, rfl, _, rfl, l', _, rfl, SqL.of el3, fun p2 n2 => ?_⟩
        have ec : cutV (cc.map V.int) none (some (-1)) = (cc.take 6).map V.int := by
          have := cut_to_b (cc.map V.int) 1 (by decide)
          rw [List.length_map, hcc.1, ← List.map_take] at this
          exact this
        rw [ec]
        have s4 := s3.trans (same_upd (o := .lst ((cc.take 6).map V.int)) n2)
        refine ⟨p1, p2, _, _, rfl, rfl, same_upd n2 _ _ ep3, upd_same, ?_, fun p3 n3 => ?_⟩
        · rw [List.length_map, List.length_take, hcc.1]
          exact sz4 (by show 1 + min 6 7 ≤ 100000; decide)
        have s5 := s4.trans (same_upd (o := .lst ([.int (if kp = true then outB cc z else z)] ++ (cc.take 6).map V.int)) n3)
        refine ⟨p3, _, _, _, rfl, s5, same_upd n3 _ _ (same_upd n2 _ _ eo3), upd_same, .inr (s4.free n3), ne_of_none (same_upd n2 _ _ eo3) n3⟩
      · refine ⟨_, rfl, kp, rfl, ?_⟩
        cases kp with
        | true => exact iteT ⟨_, rfl, rest _ _ ⟨rfl, rfl⟩⟩
        | false => exact iteF ⟨_, rfl, rest _ _ ⟨rfl, rfl⟩⟩
    · rintro σ H2 ⟨l', y4, y5, y6, rfl, sm, eo, el, hl', nol⟩
      rw [List.length_map, List.take_length] at eo el
      refine ⟨_, rfl, _, rfl, (by show 2 ≤ sizeLine; decide), fun p np => ?_⟩
      exact q hB _ p o l' (sm.trans (same_upd np)) (sm.free np) upd_same no0 (same_upd np _ _ eo) hl' (same_upd np _ _ el) nol
/-! ### scramblers as objects -/
structure ScC (K : PySem.W.Frag) (C : Addr) : Prop where
  cls : Cls K C
  nc : NoAttr K C "cells"
abbrev scF (l : Addr) : List (Str × V) := [(("cells" : Str), .ref l)]
structure Scr (C r l : Addr) (c : List Int) (H : Hp) : Prop where
  ins : ∃ dx, H r = some (.ins C dx (scF l))
  mem : H l = some (.lst (c.map V.int))
  ok : Cells c
def tSc (C r l : Addr) (c : List Int) : Th := ⟨[r, l], Scr C r l c, fun H H' k h => by
  obtain ⟨⟨dx, h1⟩, h2, h3⟩ := h
  exact ⟨⟨dx, k _ (.head _) _ h1⟩, k _ (.tail _ (.head _)) _ h2, h3⟩, fun H h a ha => by
  obtain ⟨⟨dx, h1⟩, h2, h3⟩ := h
  rcases List.mem_cons.mp ha with rfl | ha
  · exact ⟨_, h1, trivial⟩
  · rw [List.mem_singleton.mp ha]
    exact ⟨_, h2, trivial⟩⟩
theorem Scr.ne {C r l : Addr} {c : List Int} {H : Hp} (h : Scr C r l c H) : l ≠ r := fun z => by
  obtain ⟨⟨dx, h1⟩, h2, _⟩ := h
  rw [z, h1] at h2
  cases h2
theorem Scr.al {C r l : Addr} {c : List Int} {H : Hp} (h : Scr C r l c H) : H r ≠ none ∧ H l ≠ none := by
  obtain ⟨⟨dx, h1⟩, h2, _⟩ := h
  rw [h1, h2]
  exact ⟨(fun z => nomatch z), (fun z => nomatch z)⟩
theorem in2' {a r b : Addr} (h : a ∈ [r, b]) : a = r ∨ a = b := by simpa using h
def spSi (C cN : Addr) : Sp := fun vs H Q E => ∃ (r dx : Addr) (n : Int), vs = [.ref r, .int n] ∧ H r = some (.ins C dx []) ∧
  (0 ≤ n → n < 128 → ∀ (H' : Hp) (l : Addr), MvF [r] H H' → H l = none → H' r = some (.ins C dx (scF l)) → H' l = some (.lst ((wr 7 n).map V.int)) → Q .non H') ∧
  (n < 0 ∨ 128 ≤ n → ∀ H' d, Same H H' → H d = none → H' d = some (.xd [(("word" : Str), .str "BadCount")]) → E (.ref cN) (some d) H')
def spPush (kp : Bool) (C cB : Addr) : Sp := fun vs H Q E => ∃ (r l a : Addr) (c ns : List Int), vs = [.ref r, .ref a] ∧ Scr C r l c H ∧ H a = some (.lst (ns.map V.int)) ∧ ns.length ≤ 10000 ∧
  (Bits ns → ∀ (H' : Hp) (o l' : Addr), MvF [r] H H' → H o = none → H' o = some (.lst ((scO kp c ns).map V.int)) → (l' = l ∨ H l' = none) → Scr C r l' (scC kp c ns) H' → o ≠ l' → Q (.ref o) H') ∧
  (∀ (i : Nat) (z : Int), ns[i]? = some z → ¬ isB z → Bits (ns.take i) → ∀ H' d, Same H H' → H d = none → H' d = some (.xd [(("at" : Str), .int (i : Int)), (("word" : Str), .str "BadBit")]) → E (.ref cB) (some d) H')
def spMem (C : Addr) : Sp := fun vs H Q _ => ∃ (r l : Addr) (c : List Int), vs = [.ref r] ∧ Scr C r l c H ∧ ∀ H', Same H H' → Q (.int (bn c)) H'
def spTwinS (C : Addr) : Sp := fun vs H Q _ => ∃ (r l : Addr) (c : List Int), vs = [.ref r] ∧ Scr C r l c H ∧ ∀ (H' : Hp) (r' l' : Addr), Same H H' → H r' = none → H l' = none → Scr C r' l' c H' → Q (.ref r') H'
theorem made_none {H : Hp} {x dx l : Addr} {o o' : HO} (h : upd (upd H dx o') x o l = none) : H l = none := by
  by_cases z : l = x
  · rw [z, upd_same] at h
    cases h
  by_cases y : l = dx
  · rw [upd_ne z, y, upd_same] at h
    cases h
  rw [upd_ne z, upd_ne y] at h
  exact h
theorem made_same {H H2 : Hp} {x dx : Addr} {o o' : HO} (nx : H x = none) (ndx : H dx = none) (m : MvF [x] (upd (upd H dx o') x o) H2) : Same H H2 := fun a u e => by
  refine m.kp a u (fun z => ne_of_none e nx (in1 z)) ?_
  rw [upd_ne (ne_of_none e nx), upd_ne (ne_of_none e ndx)]
  exact e
theorem Hs.pushSc {T0 : List (Addr × Str)} {Ts : List Th} {C r l l' o : Addr} {c c' : List Int} {out : List V} {H H' : Hp} (h : Hs T0 Ts H) (i : Nat) (hi : Ts[i]? = some (tSc C r l c)) (m : MvF [r] H H') (no : H o = none) (eo : H' o = some (.lst out)) (hl' : l' = l ∨ H l' = none) (p : Scr C r l' c' H') (nol : o ≠ l') : Hs T0 (tL o out :: Ts.set i (tSc C r l' c')) H' := by
  have hp : Scr C r l c H := h.get i hi
  refine h.opNew (T := tSc C r l c) (T' := tSc C r l' c') (N := tL o out) i hi m (fun a ha => by rw [in1 ha]; exact .inl (.head _)) p (fun a ha => ?_) ⟨eo, trivial⟩ (fun a ha => ?_)
  · rcases in2' ha with rfl | rfl
    · exact .inl (.head _)
    · rcases hl' with rfl | y
      · exact .inl (.tail _ (.head _))
      · exact .inr y
  · rw [in1 ha]
    refine ⟨no, fun z => ?_⟩
    rcases in2' z with y | y
    · exact hp.al.1 (y ▸ no)
    · exact nol y
theorem sc_Scrambler___init__ : FnScope ["self", "seed"] ["self", "seed"] (defScope m_Scrambler___init__) := ⟨rfl, rfl, rfl, by decide +kernel, rfl, by decide +kernel, by decide +kernel⟩
theorem ok_Scrambler___init__ {f C cN : Addr} {fd : FuncData} {k : Nat} {kws : List (Str × V)} {t7 : Tok} (F : FunD K "__init__" "Scrambler.__init__" (defArgs m_Scrambler___init__) (defBody m_Scrambler___init__) (defScope m_Scrambler___init__) [] kws f fd) (R : ScC K C) (g_MEMORY_BITS : mg "MEMORY_BITS" = some (.int 7 t7)) (c_number_bits : CalX P w K mg base k "number_bits" ["number", "many"] (spNbX cN)) :
    FnOk P w K mg base (L2.CX P w) (k + 1) f fd ["self", "seed"] (spSi C cN) := by
  have sc := sc_Scrambler___init__
  refine F.ok sc (fun vs H Q E h => ?_) (fun cdv A outer s H vs Q E hr h => ?_)
  · obtain ⟨r, dx, n, rfl, _⟩ := h
    rfl
  · obtain ⟨r, dx, n, rfl, hr_, q, qn⟩ := h
    refine ⟨_, (pss_one (ps_fldK K rfl (pv 0) (pe_callP c_number_bits hr (passes_call (takes_of rfl rfl rfl rfl) (fun _ _ _ _ h => h)) (by rfl) (pa_cons (pv 1) (pa_cons (pe_glob (v := .int 7) (by rfl) g_MEMORY_BITS ⟨_, rfl⟩) pa_nil))))), ?_⟩
    refine ⟨_, rfl, n, 7, rfl, (fun m em _ h0 h1 H1 l s1 nl el => ?_), (fun bad => qn (by
      rcases bad with h | h | h | h
      · exact absurd h (by decide)
      · exact absurd h (by decide)
      · exact .inl h
      · exact .inr h))⟩
    obtain rfl : m = 7 := by omega
    refine ⟨_, rfl, r, C, dx, _, rfl, s1 _ _ hr_, R.cls, R.nc, (by show 0 < 1000; decide), ?_⟩
    have nlr : l ≠ r := (ne_of_none hr_ nl).symm
    refine q h0 h1 _ l ((MvF.of s1).upd (.head _)) nl upd_same ?_
    rw [upd_ne nlr]
    exact el
theorem sc_Scrambler_push : FnScope ["self", "bits", "out", "cells"] ["self", "bits"] (defScope m_Scrambler_push) := ⟨rfl, rfl, rfl, by decide +kernel, rfl, by decide +kernel, by decide +kernel⟩
theorem ok_Scrambler_push {f C cB : Addr} {fd : FuncData} {k : Nat} (F : Fun K "push" "Scrambler.push" m_Scrambler_push f fd) (R : ScC K C) (c_pushed_through : CalX P w K mg base k "pushed_through" ["cells", "bits", "keeps_out"] (spPT K cB)) :
    FnOk P w K mg base (L2.CX P w) (k + 1) f fd ["self", "bits"] (spPush true C cB) := by
  have sc := sc_Scrambler_push
  refine F.okX sc (fun vs H Q E h => ?_) (fun cdv A outer s H vs Q E hr h => ?_)
  · obtain ⟨r, l, a, c, ns, rfl, _⟩ := h
    rfl
  · obtain ⟨r, l, a, c, ns, rfl, hsc, ha, hlen, q, qe⟩ := h
    refine ⟨_, (pss_cons (ps_asg (pe_callP c_pushed_through hr (passes_call (takes_of rfl rfl rfl rfl) (fun _ _ _ _ h => h)) (by rfl) (pa_cons (pe_fldK K rfl (pv 0)) (pa_cons (pv 1) (pa_cons pe_bl pa_nil)))) (pg_tup rfl (pgs_cons (pg_name (i := 2) sc.nd rfl (.inl rfl)) (pgs_cons (pg_name (i := 3) sc.nd rfl (.inl rfl)) pgs_nil))))
 (pss_cons (ps_fldK K rfl (pv 0) (pv 3))
 (pss_one (ps_ret (pv 2))))), ?_⟩
    obtain ⟨⟨dx, hins⟩, hmem, hcl⟩ := id hsc
    refine ⟨_, rfl, r, C, dx, _, _, rfl, hins, R.cls, R.nc, rfl, _, rfl, l, a, true, c, ns, rfl, hmem, SqL.of ha, hcl, hlen, (fun hB H1 p o l' s1 np ep no eo hl' el nol => ?_), qe⟩
    refine ⟨p, _, rfl, SqT.of ep, rfl, _, _, rfl, _, _, rfl, rfl, ?_⟩
    refine ⟨_, rfl, _, rfl, r, C, dx, _, rfl, s1 _ _ hins, R.cls, R.nc, (by show 1 < 1000; decide), ?_⟩
    have nor : o ≠ r := (ne_of_none hins no).symm
    have nlr : l' ≠ r := fun z => by
      rw [z, s1 _ _ hins] at el
      cases el
    refine ⟨_, rfl, q hB _ o l' ((MvF.of s1).upd (.head _)) no ?_ hl' ⟨⟨dx, upd_same⟩, ?_, scC_cells hcl hB⟩ nol⟩
    · rw [upd_ne nor]
      exact eo
    · rw [upd_ne nlr]
      exact el
theorem sc_Scrambler_memory : FnScope ["self"] ["self"] (defScope m_Scrambler_memory) := ⟨rfl, rfl, rfl, by decide +kernel, rfl, by decide +kernel, by decide +kernel⟩
theorem ok_Scrambler_memory {f C cB cN : Addr} {fd : FuncData} {k : Nat} (F : Fun K "memory" "Scrambler.memory" m_Scrambler_memory f fd) (R : ScC K C) (c_bits_number : CalX P w K mg base k "bits_number" ["bits"] (spBnX K cB cN)) :
    FnOk P w K mg base CX0 (k + 1) f fd ["self"] (spMem C) := by
  have sc := sc_Scrambler_memory
  refine F.ok sc (fun vs H Q E h => ?_) (fun cdv A outer s H vs Q E hr h => ?_)
  · obtain ⟨r, l, c, rfl, _⟩ := h
    rfl
  · obtain ⟨r, l, c, rfl, ⟨⟨dx, hins⟩, hmem, hcl⟩, q⟩ := h
    refine ⟨_, (pss_one (ps_ret (pe_callF c_bits_number hr (by rfl) (pa_cons (pe_fldK K rfl (pv 0)) pa_nil)))), ?_⟩
    exact ⟨_, rfl, r, C, dx, _, _, rfl, hins, R.cls, R.nc, rfl, l, c, rfl, SqL.of hmem, (by rw [hcl.1]; decide), (fun _ _ H1 s1 => q H1 s1), (fun _ h => absurd h (by rw [hcl.1]; decide)), (fun i z hz nb => (nb (hcl.2 z (List.mem_of_getElem? hz))).elim)⟩
theorem sc_Descrambler___init__ : FnScope ["self", "seed"] ["self", "seed"] (defScope m_Descrambler___init__) := ⟨rfl, rfl, rfl, by decide +kernel, rfl, by decide +kernel, by decide +kernel⟩
theorem ok_Descrambler___init__ {f C cN : Addr} {fd : FuncData} {k : Nat} {kws : List (Str × V)} {t7 : Tok} (F : FunD K "__init__" "Descrambler.__init__" (defArgs m_Descrambler___init__) (defBody m_Descrambler___init__) (defScope m_Descrambler___init__) [] kws f fd) (R : ScC K C) (g_MEMORY_BITS : mg "MEMORY_BITS" = some (.int 7 t7)) (c_number_bits : CalX P w K mg base k "number_bits" ["number", "many"] (spNbX cN)) :
    FnOk P w K mg base (L2.CX P w) (k + 1) f fd ["self", "seed"] (spSi C cN) := by
  have sc := sc_Descrambler___init__
  refine F.ok sc (fun vs H Q E h => ?_) (fun cdv A outer s H vs Q E hr h => ?_)
  · obtain ⟨r, dx, n, rfl, _⟩ := h
    rfl
  · obtain ⟨r, dx, n, rfl, hr_, q, qn⟩ := h
    refine ⟨_, (pss_one (ps_fldK K rfl (pv 0) (pe_callP c_number_bits hr (passes_call (takes_of rfl rfl rfl rfl) (fun _ _ _ _ h => h)) (by rfl) (pa_cons (pv 1) (pa_cons (pe_glob (v := .int 7) (by rfl) g_MEMORY_BITS ⟨_, rfl⟩) pa_nil))))), ?_⟩
    refine ⟨_, rfl, n, 7, rfl, (fun m em _ h0 h1 H1 l s1 nl el => ?_), (fun bad => qn (by
      rcases bad with h | h | h | h
      · exact absurd h (by decide)
      · exact absurd h (by decide)
      · exact .inl h
      · exact .inr h))⟩
    obtain rfl : m = 7 := by omega
    refine ⟨_, rfl, r, C, dx, _, rfl, s1 _ _ hr_, R.cls, R.nc, (by show 0 < 1000; decide), ?_⟩
    have nlr : l ≠ r := (ne_of_none hr_ nl).symm
    refine q h0 h1 _ l ((MvF.of s1).upd (.head _)) nl upd_same ?_
    rw [upd_ne nlr]
    exact el
theorem sc_Descrambler_push : FnScope ["self", "bits", "out", "cells"] ["self", "bits"] (defScope m_Descrambler_push) := ⟨rfl, rfl, rfl, by decide +kernel, rfl, by decide +kernel, by decide +kernel⟩
theorem ok_Descrambler_push {f C cB : Addr} {fd : FuncData} {k : Nat} (F : Fun K "push" "Descrambler.push" m_Descrambler_push f fd) (R : ScC K C) (c_pushed_through : CalX P w K mg base k "pushed_through" ["cells", "bits", "keeps_out"] (spPT K cB)) :
    FnOk P w K mg base (L2.CX P w) (k + 1) f fd ["self", "bits"] (spPush false C cB) := by
  have sc := sc_Descrambler_push
  refine F.okX sc (fun vs H Q E h => ?_) (fun cdv A outer s H vs Q E hr h => ?_)
  · obtain ⟨r, l, a, c, ns, rfl, _⟩ := h
    rfl
  · obtain ⟨r, l, a, c, ns, rfl, hsc, ha, hlen, q, qe⟩ := h
    refine ⟨_, (pss_cons (ps_asg (pe_callP c_pushed_through hr (passes_call (takes_of rfl rfl rfl rfl) (fun _ _ _ _ h => h)) (by rfl) (pa_cons (pe_fldK K rfl (pv 0)) (pa_cons (pv 1) (pa_cons pe_bl pa_nil)))) (pg_tup rfl (pgs_cons (pg_name (i := 2) sc.nd rfl (.inl rfl)) (pgs_cons (pg_name (i := 3) sc.nd rfl (.inl rfl)) pgs_nil))))
 (pss_cons (ps_fldK K rfl (pv 0) (pv 3))
 (pss_one (ps_ret (pv 2))))), ?_⟩
    obtain ⟨⟨dx, hins⟩, hmem, hcl⟩ := id hsc
    refine ⟨_, rfl, r, C, dx, _, _, rfl, hins, R.cls, R.nc, rfl, _, rfl, l, a, false, c, ns, rfl, hmem, SqL.of ha, hcl, hlen, (fun hB H1 p o l' s1 np ep no eo hl' el nol => ?_), qe⟩
    refine ⟨p, _, rfl, SqT.of ep, rfl, _, _, rfl, _, _, rfl, rfl, ?_⟩
    refine ⟨_, rfl, _, rfl, r, C, dx, _, rfl, s1 _ _ hins, R.cls, R.nc, (by show 1 < 1000; decide), ?_⟩
    have nor : o ≠ r := (ne_of_none hins no).symm
    have nlr : l' ≠ r := fun z => by
      rw [z, s1 _ _ hins] at el
      cases el
    refine ⟨_, rfl, q hB _ o l' ((MvF.of s1).upd (.head _)) no ?_ hl' ⟨⟨dx, upd_same⟩, ?_, scC_cells hcl hB⟩ nol⟩
    · rw [upd_ne nor]
      exact eo
    · rw [upd_ne nlr]
      exact el
theorem sc_Descrambler_memory : FnScope ["self"] ["self"] (defScope m_Descrambler_memory) := ⟨rfl, rfl, rfl, by decide +kernel, rfl, by decide +kernel, by decide +kernel⟩
theorem ok_Descrambler_memory {f C cB cN : Addr} {fd : FuncData} {k : Nat} (F : Fun K "memory" "Descrambler.memory" m_Descrambler_memory f fd) (R : ScC K C) (c_bits_number : CalX P w K mg base k "bits_number" ["bits"] (spBnX K cB cN)) :
    FnOk P w K mg base CX0 (k + 1) f fd ["self"] (spMem C) := by
  have sc := sc_Descrambler_memory
  refine F.ok sc (fun vs H Q E h => ?_) (fun cdv A outer s H vs Q E hr h => ?_)
  · obtain ⟨r, l, c, rfl, _⟩ := h
    rfl
  · obtain ⟨r, l, c, rfl, ⟨⟨dx, hins⟩, hmem, hcl⟩, q⟩ := h
    refine ⟨_, (pss_one (ps_ret (pe_callF c_bits_number hr (by rfl) (pa_cons (pe_fldK K rfl (pv 0)) pa_nil)))), ?_⟩
    exact ⟨_, rfl, r, C, dx, _, _, rfl, hins, R.cls, R.nc, rfl, l, c, rfl, SqL.of hmem, (by rw [hcl.1]; decide), (fun _ _ H1 s1 => q H1 s1), (fun _ h => absurd h (by rw [hcl.1]; decide)), (fun i z hz nb => (nb (hcl.2 z (List.mem_of_getElem? hz))).elim)⟩
theorem scr_made {C x dx l : Addr} {n : Int} {H H2 : Hp} (nx : H x = none) (ndx : H dx = none) (m : MvF [x] (upd (upd H dx (.own x)) x (.ins C dx [])) H2) (nl : upd (upd H dx (.own x)) x (.ins C dx []) l = none) (e1 : H2 x = some (.ins C dx (scF l))) (e2 : H2 l = some (.lst ((wr 7 n).map V.int))) :
    Same H H2 ∧ Scr C x l (wr 7 n) H2 ∧ H l = none := ⟨made_same nx ndx m, ⟨⟨dx, e1⟩, e2, cells_wr n⟩, made_none nl⟩
theorem Hs.newSc {T0 : List (Addr × Str)} {Ts : List Th} {C x l : Addr} {c : List Int} {H H2 : Hp} (h : Hs T0 Ts H) (s : Same H H2) (p : Scr C x l c H2) (nx : H x = none) (nl : H l = none) : Hs T0 (tSc C x l c :: Ts) H2 := h.new (T := tSc C x l c) s p (fun a ha => by
  rcases in2' ha with rfl | rfl
  · exact nx
  · exact nl)
theorem sc__law_at : FnScope ["_law_act", "e"] ["_law_act"] (defScope s__law_at) := ⟨rfl, rfl, rfl, by decide +kernel, rfl, by decide +kernel, by decide +kernel⟩
theorem at_gives {X : Cx} {g cB cY cF cC cL : Addr} {cdg : Value} {q : Str} (aB : AtC X.K X.mg "BadBit" cB) (aY : AtC X.K X.mg "BadByte" cY) (aF : AtC X.K X.mg "BadFrame" cF) (aC : AtC X.K X.mg "BadCode" cC) (gL : X.mg "LineError" = some (.ref cL))
    (bb : PySem.W.exmOne X.K (.ref cB) (.ref cB) = some true) (yb : PySem.W.exmOne X.K (.ref cY) (.ref cB) = some false) (yy : PySem.W.exmOne X.K (.ref cY) (.ref cY) = some true)
    (fb : PySem.W.exmOne X.K (.ref cF) (.ref cB) = some false) (fy : PySem.W.exmOne X.K (.ref cF) (.ref cY) = some false) (ff : PySem.W.exmOne X.K (.ref cF) (.ref cF) = some true)
    (cb : PySem.W.exmOne X.K (.ref cC) (.ref cB) = some false) (cy : PySem.W.exmOne X.K (.ref cC) (.ref cY) = some false) (cf : PySem.W.exmOne X.K (.ref cC) (.ref cF) = some false) (cc : PySem.W.exmOne X.K (.ref cC) (.ref cC) = some true) :
    LamX.GivesTo X ["_law_act", "e"] "_law_at" (defScope s__law_at) g cdg (defBody s__law_at) "_law_act" q (TAt [(cB, "BadBit"), (cY, "BadByte"), (cF, "BadFrame"), (cC, "BadCode")]) := by
  intro f c' s H Q tl act hc h
  have sc := sc__law_at
  refine ⟨_, pss_cons (ps_try_manyA (X := (cxOf C8.CX0 X.prog X.w X.K X.mg X.base ["_law_act", "e"] "_law_at" (defScope s__law_at) g cdg X.A X.stack s H C8.E0).nox) (n := "e") (i := 1)
      (tb := fun W D σ H => ∃ Ech : XK, (∀ cls d σ' H', Ech cls d H' → σ'.length = 2 → W cls d σ' H') ∧ σ[0]? = some (some (.ref f)) ∧ H c' = some (LamX.CodeO c' q) ∧ tl Ech H (fun _ H1 => D.nx σ H1))
      rfl rfl sc.nd rfl rfl LamX.takes0 (fun W pn xe tk _ => ?_)
      (.cons (c := .ref cB) ⟨by rfl, by decide, .inl aB.gC⟩ (fun a oe cls d pn hz hf => pss_one (ps_ret (pe_lst (pa_cons pe_str (pa_cons (pe_xf aB.xf aB.no hz hf (pv 1)) pa_nil)))))
      (.cons (c := .ref cY) ⟨by rfl, by decide, .inl aY.gC⟩ (fun a oe cls d pn hz hf => pss_one (ps_ret (pe_lst (pa_cons pe_str (pa_cons (pe_xf aY.xf aY.no hz hf (pv 1)) pa_nil)))))
      (.cons (c := .ref cF) ⟨by rfl, by decide, .inl aF.gC⟩ (fun a oe cls d pn hz hf => pss_one (ps_ret (pe_lst (pa_cons pe_str (pa_cons (pe_xf aF.xf aF.no hz hf (pv 1)) pa_nil)))))
      (.cons (c := .ref cC) ⟨by rfl, by decide, .inl aC.gC⟩ (fun a oe cls d pn hz hf => pss_one (ps_ret (pe_lst (pa_cons pe_str (pa_cons (pe_xf aC.xf aC.no hz hf (pv 1)) pa_nil)))))
      (.cons (c := .ref cL) ⟨by rfl, by decide, .inl gL⟩ (fun a oe cls d pn hz hf => pss_one ps_never) .nil)))))) (pss_one ps_never), ?_⟩
  · refine ⟨fun pins s' σ H' D I h' => ?_⟩
    obtain ⟨Ech, hW, h1, h2, h3⟩ := h'
    exact PSs.run (pss_one (ps_expr (act _ pn xe Ech _ _ (takes_len tk) (fun cls d σ' H' e hl => hW cls d σ' H' e hl)))) pins s' σ H' D I ⟨h1, h2, h3⟩
  · refine ⟨_, fun cls d σ' H' e hl => ?_, rfl, hc, h⟩
    obtain ⟨e, he, rfl, dd, v, rfl, hd, q'⟩ := e
    have g1 : ∀ a : Addr, (σ'.set 1 (some (V.ref a)))[1]? = some (some (V.ref a)) := fun a => set_get (by omega)
    have fin : ∀ (a : Addr) (nm : Str), H' dd = some (.xd [(("at" : Str), v), (("word" : Str), .str nm)]) → (∀ p, H' p = none → Q (.ref p) (upd H' p (.lst [.str nm, v]))) → ∀ (C : Addr), 
        tRet (tLst (tCons (tC (.str nm)) (tCons (tXf a (.ref C) (some dd) C "at" (tVar 1)) tNil))) (asEnds 1 { nx := fun _ H' => Q .non H', rt := Q }) (σ'.set 1 (some (.ref a))) H' := fun a nm h1 h2 C =>
      ⟨_, g1 a, rfl, rfl, dd, _, v, rfl, h1, rfl, (by show 2 ≤ sizeLine; decide), h2⟩
    rcases List.mem_cons.mp he with rfl | he
    · exact ⟨true, bb, fun _ a _ => fin a _ hd q' _, fun z => by cases z⟩
    rcases List.mem_cons.mp he with rfl | he
    · exact ⟨false, yb, (fun z => by cases z), fun _ => ⟨true, yy, fun _ a _ => fin a _ hd q' _, fun z => by cases z⟩⟩
    rcases List.mem_cons.mp he with rfl | he
    · exact ⟨false, fb, (fun z => by cases z), fun _ => ⟨false, fy, (fun z => by cases z), fun _ => ⟨true, ff, fun _ a _ => fin a _ hd q' _, fun z => by cases z⟩⟩⟩
    rw [List.mem_singleton.mp he] at hd q' ⊢
    exact ⟨false, cb, (fun z => by cases z), fun _ => ⟨false, cy, (fun z => by cases z), fun _ => ⟨false, cf, (fun z => by cases z), fun _ => ⟨true, cc, fun _ a _ => fin a _ hd q' _, fun z => by cases z⟩⟩⟩⟩
theorem sc__law_tried : FnScope ["_law_act", "e"] ["_law_act"] (defScope s__law_tried) := ⟨rfl, rfl, rfl, by decide +kernel, rfl, by decide +kernel, by decide +kernel⟩
theorem tried_gives {X : Cx} {g cN cL cM : Addr} {cdg : Value} {q nm : Str} (xN : XfC X.K cN) (noN : PySem.W.findIn X.K (.ref cN) "word" = some none) (gL : X.mg "LineError" = some (.ref cL)) (gM : X.mg "Missing" = some (.ref cM))
    (nl : PySem.W.exmOne X.K (.ref cN) (.ref cL) = some true) :
    LamX.GivesTo X ["_law_act", "e"] "_law_tried" (defScope s__law_tried) g cdg (defBody s__law_tried) "_law_act" q (TTried cN nm) := by
  intro f c' s H Q tl act hc h
  have sc := sc__law_tried
  refine ⟨_, pss_one (ps_try_manyA (X := (cxOf C8.CX0 X.prog X.w X.K X.mg X.base ["_law_act", "e"] "_law_tried" (defScope s__law_tried) g cdg X.A X.stack s H C8.E0).nox) (n := "e") (i := 1)
      (tb := fun W D σ H => ∃ Ech : XK, (∀ cls d σ' H', Ech cls d H' → σ'.length = 2 → W cls d σ' H') ∧ σ[0]? = some (some (.ref f)) ∧ H c' = some (LamX.CodeO c' q) ∧ tl Ech H (fun v H1 => ([V.str "told", v] : List V).length ≤ sizeLine ∧ ∀ p, H1 p = none → D.rt (.ref p) (upd H1 p (.tup [.str "told", v]))))
      rfl rfl sc.nd rfl rfl LamX.takes0 (fun W pn xe tk _ => ?_)
      (.cons (c := .ref cL) ⟨by rfl, by decide, .inl gL⟩ (fun a oe cls d pn hz hf => pss_one (ps_ret (pe_tup (pa_cons pe_str (pa_cons (pe_xf xN noN hz hf (pv 1)) pa_nil)))))
      (.cons (c := .ref cM) ⟨by rfl, by decide, .inl gM⟩ (fun a oe cls d pn hz hf => pss_one ps_never) .nil))), ?_⟩
  · refine ⟨fun pins s' σ H' D I h' => ?_⟩
    obtain ⟨Ech, hW, h1, h2, h3⟩ := h'
    exact PSs.run (pss_one (ps_ret (pe_tup (pa_cons pe_str (pa_cons (act _ pn xe Ech _ _ (takes_len tk) (fun cls d σ' H' e hl => hW cls d σ' H' e hl)) pa_nil))))) pins s' σ H' D I ⟨h1, h2, h3⟩
  · refine ⟨_, fun cls d σ' H' e hl => ?_, rfl, hc, h⟩
    obtain ⟨rfl, dd, fs, rfl, hd, hw, q'⟩ := e
    have g1 : ∀ a : Addr, (σ'.set 1 (some (V.ref a)))[1]? = some (some (V.ref a)) := fun a => set_get (by omega)
    exact ⟨true, nl, fun _ a _ => ⟨_, g1 a, rfl, rfl, dd, _, _, rfl, hd, hw, (by show 2 ≤ sizeLine; decide), q'⟩, fun z => by cases z⟩
theorem sc__law_worth : FnScope ["_law_signs", "_law_found", "_law_sign"] ["_law_signs"] (defScope s__law_worth) := ⟨rfl, rfl, rfl, by decide +kernel, rfl, by decide +kernel, by decide +kernel⟩
def spWorth (K : PySem.W.Frag) : Sp := fun vs H Q _ => ∃ (a : Addr) (ns : List Int), vs = [.ref a] ∧ SqL K H a (ns.map V.int) ∧ Q (.int (bn ns)) H
theorem ok__law_worth {f : Addr} {fd : FuncData} {k : Nat} (F : Fun K "_law_worth" "_law_worth" s__law_worth f fd) : FnOk P w K mg base CX0 (k + 1) f fd ["_law_signs"] (spWorth K) := by
  have sc := sc__law_worth
  refine F.ok sc (fun vs H Q E h => ?_) (fun cdv A outer s H vs Q E hr h => ?_)
  · obtain ⟨a, ns, rfl, _⟩ := h
    rfl
  · obtain ⟨a, ns, rfl, hS, q⟩ := h
    refine ⟨_, (pss_cons (ps_set (i := 1) sc.nd rfl (.inl rfl) pe_int)
 (pss_cons (ps_for PassesOwn.never rfl (pi_listK K rfl (pv 0)) (pg_name (i := 2) sc.nd rfl (.inl rfl))
  (pss_one (ps_set (i := 1) sc.nd rfl (.inl rfl) (pe_op op_add (pe_op op_mul (pv 1) pe_int) (pv 2)))))
 (pss_one (ps_ret (pv 1))))), ?_⟩
    refine ⟨_, rfl, a, rfl, ⟨_, hS⟩, for_list (K := K) (a := a) (xs := ns.map V.int) (fun i σ H' => ∃ y, σ = [some (.ref a), some (.int (bn (ns.take i))), y] ∧ H' = H) ⟨none, rfl, rfl⟩ (fun i σ H' _ h => ?_) ?_ ?_⟩
    · obtain ⟨_, _, rfl⟩ := h
      exact hS
    · rintro i x σ H' hx ⟨y, rfl, rfl⟩
      obtain ⟨z, hz, rfl⟩ := getI hx
      refine ⟨_, rfl, _, _, rfl, rfl, .inr ⟨by decide, by decide⟩, _, rfl, _, _, rfl, rfl, some (.int z), ?_, rfl⟩
      rw [bn_more hz, Int.mul_comm]
      rfl
    · rintro σ H' ⟨y, rfl, rfl⟩
      rw [List.length_map, List.take_length]
      exact ⟨_, rfl, q⟩
def spLsc (kp : Bool) : Sp := fun vs H Q _ => ∃ (a m : Addr) (ns c : List Int), vs = [.ref a, .ref m] ∧ H a = some (.lst (ns.map V.int)) ∧ H m = some (.lst (c.map V.int)) ∧ a ≠ m ∧ Cells c ∧ Bits ns ∧ ns.length ≤ 10000 ∧
  ∀ (H' : Hp) (o : Addr), Mv m H H' → H o = none → H' o = some (.lst ((scO kp c ns).map V.int)) → H' m = some (.lst ((scC kp c ns).map V.int)) → Q (.ref o) H'
theorem ins_pop {c : List Int} {t : Int} (h : Cells c) : ((c.map V.int).take (0 : Int).toNat ++ [V.int t] ++ (c.map V.int).drop (0 : Int).toNat).dropLast = (t :: c.take 6).map V.int := by
  show (V.int t :: c.map V.int).dropLast = _
  rw [List.dropLast_cons_of_ne_nil (by intro z; have := congrArg List.length z; rw [List.length_map, h.1] at this; cases this), List.dropLast_eq_take, List.length_map, h.1, ← List.map_take]
  rfl
theorem ins_last {c : List Int} {t : Int} (h : Cells c) : ∃ y, ((c.map V.int).take (0 : Int).toNat ++ [V.int t] ++ (c.map V.int).drop (0 : Int).toNat)[((c.map V.int).take (0 : Int).toNat ++ [V.int t] ++ (c.map V.int).drop (0 : Int).toNat).length - 1]? = some y := by
  refine ⟨_, List.getElem?_eq_getElem ?_⟩
  show (V.int t :: c.map V.int).length - 1 < (V.int t :: c.map V.int).length
  rw [List.length_cons]
  omega
theorem sc__law_scrambled : FnScope ["_law_signs", "_law_memory", "_law_found", "_law_sign", "_law_told"] ["_law_signs", "_law_memory"] (defScope s__law_scrambled) := ⟨rfl, rfl, rfl, by decide +kernel, rfl, by decide +kernel, by decide +kernel⟩
theorem ok__law_scrambled {f : Addr} {fd : FuncData} {k : Nat} (F : Fun K "_law_scrambled" "_law_scrambled" s__law_scrambled f fd) : FnOk P w K mg base CX0 (k + 1) f fd ["_law_signs", "_law_memory"] (spLsc true) := by
  have sc := sc__law_scrambled
  refine F.ok sc (fun vs H Q E h => ?_) (fun cdv A outer s H vs Q E hr h => ?_)
  · obtain ⟨a, m, ns, c, rfl, _⟩ := h
    rfl
  · obtain ⟨a, m, ns, c, rfl, ha, hm, nam, hc, hb, hlen, q⟩ := h
    refine ⟨_, (pss_cons (ps_set (i := 2) sc.nd rfl (.inl rfl) (pe_lst pa_nil))
 (pss_cons (ps_for PassesOwn.never rfl (pi_listK K rfl (pv 0)) (pg_name (i := 3) sc.nd rfl (.inl rfl))
  (pss_cons (ps_set (i := 4) sc.nd rfl (.inl rfl) (pe_op op_mod (pe_op op_add (pe_op op_add (pv 3) (pe_ix (ix_listK K rfl) (pv 1) pe_int (fun _ _ => rfl))) (pe_ix (ix_listK K rfl) (pv 1) pe_int (fun _ _ => rfl))) pe_int))
 (pss_cons (ps_expr (pe_bmK K rfl PySem.F.plainAttrs_list PySem.F.slot_list_append PySem.F.type_list_append mt_append (pv 2) (pa_cons (pv 4) pa_nil)))
 (pss_cons (ps_expr (pe_bmK K rfl PySem.F.plainAttrs_list PySem.F.slot_list_insert PySem.F.type_list_insert mt_insert (pv 1) (pa_cons pe_int (pa_cons (pv 4) pa_nil))))
 (pss_one (ps_expr (pe_bm0K K rfl PySem.F.plainAttrs_list PySem.F.slot_list_pop PySem.F.type_list_pop mt_pop (pv 1))))))))
 (pss_one (ps_ret (pv 2))))), ?_⟩
    refine ⟨Nat.zero_le _, fun o no => ?_⟩
    have nom : m ≠ o := ne_of_none hm no
    refine ⟨_, rfl, a, rfl, ⟨_, SqL.of (same_upd no _ _ ha)⟩, for_list (K := K) (a := a) (xs := ns.map V.int) (fun i σ H' => ∃ (y3 y4 : Option V), σ = [some (.ref a), some (.ref m), some (.ref o), y3, y4] ∧ Mv m H H' ∧ H' o = some (.lst ((scO true c (ns.take i)).map V.int)) ∧
      H' m = some (.lst ((scC true c (ns.take i)).map V.int))) ⟨none, none, rfl, .of (same_upd no), upd_same, same_upd no _ _ hm⟩ (fun i σ H' _ h => ?_) ?_ ?_⟩
    · obtain ⟨_, _, _, mv, _⟩ := h
      exact SqL.of (mv _ _ nam ha)
    · rintro i x σ H2 hx ⟨y3, y4, rfl, mv, eo, em⟩
      obtain ⟨z, hz, rfl⟩ := getI hx
      have hcc : Cells (scC true c (ns.take i)) := scC_cells hc (bits_take hb _)
      have hol := scO_len true (ns.take i) c
      rw [List.length_take] at hol
      rw [scC_more hz, scO_more hz]
      generalize scC true c (ns.take i) = cc at *
      generalize scO true c (ns.take i) = oo at *
      refine ⟨_, rfl, _, rfl, m, _, _, _, rfl, rfl, SqL.of em, atI_nat (cells_at hcc 3 (by decide)), _, _, rfl, rfl, _, rfl, m, _, _, _, rfl, rfl, SqL.of em, atI_nat (cells_at hcc 6 (by decide)), _, _, rfl, rfl, _, _, rfl, rfl, (by show (0 : Int) < 2; decide), ?_⟩
      refine name_by ?_
      dsimp only
      refine ⟨_, rfl, .inl ⟨rfl, _, SqL.of eo⟩, _, rfl, o, _, _, rfl, rfl, eo, ?_, ?_⟩
      · rw [List.length_map]
        exact sz4l (by omega)
      have e1 : upd H2 o (.lst (oo.map V.int ++ [V.int ((z + cc.getD 3 0 + cc.getD 6 0) % 2)])) m = some (.lst (cc.map V.int)) := by rw [upd_ne nom]; exact em
      have e2 : upd H2 o (.lst (oo.map V.int ++ [V.int ((z + cc.getD 3 0 + cc.getD 6 0) % 2)])) o = some (.lst ((oo ++ [outB cc z]).map V.int)) := by rw [upd_same, List.map_append]; rfl
      have m1 : Mv m H (upd H2 o (.lst (oo.map V.int ++ [V.int ((z + cc.getD 3 0 + cc.getD 6 0) % 2)]))) := fun b u n e => by
        rw [upd_ne (ne_of_none e no)]
        exact mv b u n e
      generalize upd H2 o (.lst (oo.map V.int ++ [V.int ((z + cc.getD 3 0 + cc.getD 6 0) % 2)])) = H3 at e1 e2 m1 ⊢
      refine ⟨_, rfl, .inl ⟨rfl, _, SqL.of e1⟩, _, rfl, m, _, 0, _, rfl, rfl, e1, ?_, by decide, by decide, ?_⟩
      · rw [List.length_map, hcc.1]
        exact sz4l (by decide)
      obtain ⟨y, hy⟩ := ins_last (t := (z + cc.getD 3 0 + cc.getD 6 0) % 2) hcc
      refine ⟨_, rfl, .inl ⟨rfl, _, SqL.of upd_same⟩, m, _, y, rfl, rfl, upd_same, hy, ?_⟩
      refine ⟨_, _, rfl, m1.upd.upd, ?_, ?_⟩
      · rw [upd_ne nom.symm, upd_ne nom.symm]
        exact e2
      · rw [upd_same, ins_pop hcc]
        rfl
    · rintro σ H2 ⟨y3, y4, rfl, mv, eo, em⟩
      rw [List.length_map, List.take_length] at eo em
      exact ⟨_, rfl, q H2 o mv no eo em⟩
theorem sc__law_descrambled : FnScope ["_law_signs", "_law_memory", "_law_found", "_law_sign"] ["_law_signs", "_law_memory"] (defScope s__law_descrambled) := ⟨rfl, rfl, rfl, by decide +kernel, rfl, by decide +kernel, by decide +kernel⟩
theorem ok__law_descrambled {f : Addr} {fd : FuncData} {k : Nat} (F : Fun K "_law_descrambled" "_law_descrambled" s__law_descrambled f fd) : FnOk P w K mg base CX0 (k + 1) f fd ["_law_signs", "_law_memory"] (spLsc false) := by
  have sc := sc__law_descrambled
  refine F.ok sc (fun vs H Q E h => ?_) (fun cdv A outer s H vs Q E hr h => ?_)
  · obtain ⟨a, m, ns, c, rfl, _⟩ := h
    rfl
  · obtain ⟨a, m, ns, c, rfl, ha, hm, nam, hc, hb, hlen, q⟩ := h
    refine ⟨_, (pss_cons (ps_set (i := 2) sc.nd rfl (.inl rfl) (pe_lst pa_nil))
 (pss_cons (ps_for PassesOwn.never rfl (pi_listK K rfl (pv 0)) (pg_name (i := 3) sc.nd rfl (.inl rfl))
  (pss_cons (ps_expr (pe_bmK K rfl PySem.F.plainAttrs_list PySem.F.slot_list_append PySem.F.type_list_append mt_append (pv 2) (pa_cons (pe_op op_mod (pe_op op_add (pe_op op_add (pv 3) (pe_ix (ix_listK K rfl) (pv 1) pe_int (fun _ _ => rfl))) (pe_ix (ix_listK K rfl) (pv 1) pe_int (fun _ _ => rfl))) pe_int) pa_nil)))
 (pss_cons (ps_expr (pe_bmK K rfl PySem.F.plainAttrs_list PySem.F.slot_list_insert PySem.F.type_list_insert mt_insert (pv 1) (pa_cons pe_int (pa_cons (pv 3) pa_nil))))
 (pss_one (ps_expr (pe_bm0K K rfl PySem.F.plainAttrs_list PySem.F.slot_list_pop PySem.F.type_list_pop mt_pop (pv 1)))))))
 (pss_one (ps_ret (pv 2))))), ?_⟩
    refine ⟨Nat.zero_le _, fun o no => ?_⟩
    have nom : m ≠ o := ne_of_none hm no
    refine ⟨_, rfl, a, rfl, ⟨_, SqL.of (same_upd no _ _ ha)⟩, for_list (K := K) (a := a) (xs := ns.map V.int) (fun i σ H' => ∃ (y3 : Option V), σ = [some (.ref a), some (.ref m), some (.ref o), y3] ∧ Mv m H H' ∧ H' o = some (.lst ((scO false c (ns.take i)).map V.int)) ∧
      H' m = some (.lst ((scC false c (ns.take i)).map V.int))) ⟨none, rfl, .of (same_upd no), upd_same, same_upd no _ _ hm⟩ (fun i σ H' _ h => ?_) ?_ ?_⟩
    · obtain ⟨_, _, mv, _⟩ := h
      exact SqL.of (mv _ _ nam ha)
    · rintro i x σ H2 hx ⟨y3, rfl, mv, eo, em⟩
      obtain ⟨z, hz, rfl⟩ := getI hx
      have hcc : Cells (scC false c (ns.take i)) := scC_cells hc (bits_take hb _)
      have hol := scO_len false (ns.take i) c
      rw [List.length_take] at hol
      rw [scC_more hz, scO_more hz]
      generalize scC false c (ns.take i) = cc at *
      generalize scO false c (ns.take i) = oo at *
      refine ⟨_, rfl, .inl ⟨rfl, _, SqL.of eo⟩, _, rfl, _, rfl, m, _, _, _, rfl, rfl, SqL.of em, atI_nat (cells_at hcc 3 (by decide)), _, _, rfl, rfl, _, rfl, m, _, _, _, rfl, rfl, SqL.of em, atI_nat (cells_at hcc 6 (by decide)), _, _, rfl, rfl, _, _, rfl, rfl, (by show (0 : Int) < 2; decide), o, _, _, rfl, rfl, eo, ?_, ?_⟩
      · rw [List.length_map]
        exact sz4l (by omega)
      dsimp only
      have e1 : upd H2 o (.lst (oo.map V.int ++ [V.int ((z + cc.getD 3 0 + cc.getD 6 0) % 2)])) m = some (.lst (cc.map V.int)) := by rw [upd_ne nom]; exact em
      have e2 : upd H2 o (.lst (oo.map V.int ++ [V.int ((z + cc.getD 3 0 + cc.getD 6 0) % 2)])) o = some (.lst ((oo ++ [outB cc z]).map V.int)) := by rw [upd_same, List.map_append]; rfl
      have m1 : Mv m H (upd H2 o (.lst (oo.map V.int ++ [V.int ((z + cc.getD 3 0 + cc.getD 6 0) % 2)]))) := fun b u n e => by
        rw [upd_ne (ne_of_none e no)]
        exact mv b u n e
      generalize upd H2 o (.lst (oo.map V.int ++ [V.int ((z + cc.getD 3 0 + cc.getD 6 0) % 2)])) = H3 at e1 e2 m1 ⊢
      refine ⟨_, rfl, .inl ⟨rfl, _, SqL.of e1⟩, _, rfl, m, _, 0, _, rfl, rfl, e1, ?_, by decide, by decide, ?_⟩
      · rw [List.length_map, hcc.1]
        exact sz4l (by decide)
      obtain ⟨y, hy⟩ := ins_last (t := z) hcc
      refine ⟨_, rfl, .inl ⟨rfl, _, SqL.of upd_same⟩, m, _, y, rfl, rfl, upd_same, hy, ?_⟩
      refine ⟨_, rfl, m1.upd.upd, ?_, ?_⟩
      · rw [upd_ne nom.symm, upd_ne nom.symm]
        exact e2
      · rw [upd_same, ins_pop hcc]
        rfl
    · rintro σ H2 ⟨y3, rfl, mv, eo, em⟩
      rw [List.length_map, List.take_length] at eo em
      exact ⟨_, rfl, q H2 o mv no eo em⟩
def clsOf (C1 C2 : Addr) (kp : Bool) : Addr := if kp = true then C1 else C2
theorem push_or {C1 C2 cB r l pg : Addr} {c sg : List Int} {kp : Bool} {i j : Nat} {σ : L2.St} {H : Hp} {Q : VK} (hσ : σ[i]? = some (some (.ref r))) (hj : σ[j]? = some (some (.ref pg))) (h : Scr (clsOf C1 C2 kp) r l c H) (hg : H pg = some (.lst (sg.map V.int))) (hb : Bits sg) (hl : sg.length ≤ 10000)
    (q : ∀ (H' : Hp) (o l' : Addr), MvF [r] H H' → H o = none → H' o = some (.lst ((scO kp c sg).map V.int)) → (l' = l ∨ H l' = none) → Scr (clsOf C1 C2 kp) r l' (scC kp c sg) H' → o ≠ l' → Q (.ref o) H') :
    tMeth C1 "push" (spPush true C1 cB) [] E0 (tVar i) (tCons (tVar j) tNil) σ H Q ∨ tMeth C2 "push" (spPush false C2 cB) [] E0 (tVar i) (tCons (tVar j) tNil) σ H Q := by
  obtain ⟨⟨dx, hins⟩, hm, hc⟩ := id h
  cases kp with
  | true => exact .inl ⟨_, hσ, r, dx, _, rfl, hins, rfl, _, hj, r, l, pg, c, sg, rfl, h, hg, hl, (fun _ => q), (fun i' z hz nb => (nb (hb z (List.mem_of_getElem? hz))).elim)⟩
  | false => exact .inr ⟨_, hσ, r, dx, _, rfl, hins, rfl, _, hj, r, l, pg, c, sg, rfl, h, hg, hl, (fun _ => q), (fun i' z hz nb => (nb (hb z (List.mem_of_getElem? hz))).elim)⟩
theorem mem_or {C1 C2 r l : Addr} {c : List Int} {kp : Bool} {i : Nat} {σ : L2.St} {H : Hp} {Q : VK} (hσ : σ[i]? = some (some (.ref r))) (h : Scr (clsOf C1 C2 kp) r l c H) (q : ∀ H', Same H H' → Q (.int (bn c)) H') :
    tMeth C1 "memory" (spMem C1) [] E0 (tVar i) tNil σ H Q ∨ tMeth C2 "memory" (spMem C2) [] E0 (tVar i) tNil σ H Q := by
  obtain ⟨⟨dx, hins⟩, hm, hc⟩ := id h
  cases kp with
  | true => exact .inl ⟨_, hσ, r, dx, _, rfl, hins, rfl, r, l, c, rfl, h, q⟩
  | false => exact .inr ⟨_, hσ, r, dx, _, rfl, hins, rfl, r, l, c, rfl, h, q⟩
def whI (kp : Bool) : Int := if kp = true then 0 else 1
theorem lsc_call {pg m : Addr} {c sg : List Int} {kp : Bool} {iw ig im : Nat} {σ : L2.St} {H : Hp} {Q : VK} (hw : σ[iw]? = some (some (.int (whI kp)))) (hg : σ[ig]? = some (some (.ref pg))) (hm : σ[im]? = some (some (.ref m))) (eg : H pg = some (.lst (sg.map V.int))) (em : H m = some (.lst (c.map V.int))) (ne : pg ≠ m) (hc : Cells c) (hb : Bits sg) (hl : sg.length ≤ 10000)
    (q : ∀ (H0 H' : Hp) (o : Addr), Same H H0 → Mv m H0 H' → H0 o = none → H' o = some (.lst ((scO kp c sg).map V.int)) → H' m = some (.lst ((scC kp c sg).map V.int)) → Q (.ref o) H') :
    tCall2 mg "_law_scrambled" "_law_descrambled" (spLsc true) (spLsc false) (tOp (rIxL K) (tLst (tCons (tGl mg "_law_scrambled") (tCons (tGl mg "_law_descrambled") tNil))) (tVar iw)) (tCons (tVar ig) (tCons (tVar im) tNil)) σ H Q := by
  intro f1 m1 f2 m2
  refine ⟨(by show 2 ≤ sizeLine; decide), fun pq npq => ?_⟩
  have s0 := same_upd (o := .lst [.ref f1, .ref f2]) npq
  cases kp with
  | true => exact ⟨_, hw, pq, [.ref f1, .ref f2], _, .ref f1, rfl, rfl, SqL.of upd_same, rfl, f1, rfl, .inl ⟨m1, _, hg, _, hm, pg, m, sg, c, rfl, s0 _ _ eg, s0 _ _ em, ne, hc, hb, hl, fun H' o mv no eo em' => q _ H' o s0 mv no eo em'⟩⟩
  | false => exact ⟨_, hw, pq, [.ref f1, .ref f2], _, .ref f2, rfl, rfl, SqL.of upd_same, rfl, f2, rfl, .inr ⟨m2, _, hg, _, hm, pg, m, sg, c, rfl, s0 _ _ eg, s0 _ _ em, ne, hc, hb, hl, fun H' o mv no eo em' => q _ H' o s0 mv no eo em'⟩⟩
theorem made_sameS {H H2 : Hp} {x dx : Addr} {o o' : HO} (nx : H x = none) (ndx : H dx = none) (m : Same (upd (upd H dx o') x o) H2) : Same H H2 := fun a u e => by
  refine m a u ?_
  rw [upd_ne (ne_of_none e nx), upd_ne (ne_of_none e ndx)]
  exact e
theorem pushX_or {C1 C2 cB r l pg : Addr} {c sg : List Int} {kp : Bool} {i j : Nat} {σ : L2.St} {H : Hp} {Q : VK} {E : XK} (hσ : σ[i]? = some (some (.ref r))) (hj : σ[j]? = some (some (.ref pg))) (h : Scr (clsOf C1 C2 kp) r l c H) (hg : H pg = some (.lst (sg.map V.int))) (hl : sg.length ≤ 10000) (hb : ¬ Bits sg)
    (q : ∀ (i : Nat) (z : Int), sg[i]? = some z → ¬ isB z → Bits (sg.take i) → ∀ H' d, Same H H' → H d = none → H' d = some (.xd [(("at" : Str), .int (i : Int)), (("word" : Str), .str "BadBit")]) → E (.ref cB) (some d) H') :
    tMeth C1 "push" (spPush true C1 cB) [] E (tVar i) (tCons (tVar j) tNil) σ H Q ∨ tMeth C2 "push" (spPush false C2 cB) [] E (tVar i) (tCons (tVar j) tNil) σ H Q := by
  obtain ⟨⟨dx, hins⟩, hm, hc⟩ := id h
  cases kp with
  | true => exact .inl ⟨_, hσ, r, dx, _, rfl, hins, rfl, _, hj, r, l, pg, c, sg, rfl, h, hg, hl, (fun z => absurd z hb), q⟩
  | false => exact .inr ⟨_, hσ, r, dx, _, rfl, hins, rfl, _, hj, r, l, pg, c, sg, rfl, h, hg, hl, (fun z => absurd z hb), q⟩
theorem sc__law_bag : FnScope ["_law_script"] ["_law_script"] (defScope s__law_bag) := ⟨rfl, rfl, rfl, by decide +kernel, rfl, by decide +kernel, by decide +kernel⟩
theorem ok__law_bag {f : Addr} {fd : FuncData} {k : Nat} (F : Fun K "_law_bag" "_law_bag" s__law_bag f fd) (n_len : mg "len" = none) (n_list : mg "list" = none) : FnOk P w K mg base CX0 (k + 1) f fd ["_law_script"] (spBag K) := by
  have sc := sc__law_bag
  refine F.ok sc (fun vs H Q E h => ?_) (fun cdv A outer s H vs Q E hr h => ?_)
  · obtain ⟨a, ns, rfl, _⟩ := h
    rfl
  · obtain ⟨a, ns, rfl, hS, q⟩ := h
    refine ⟨_, (pss_one (ps_ret (pe_lst (pa_cons (pe_callTy (call_listK K rfl) (by rfl) n_list (by decide +kernel) (pa_cons (pe_slice (sl_listK K rfl) (pv 0) po_none (po_some pe_int)) pa_nil)) (pa_cons pe_int (pa_cons pe_int (pa_cons (pe_op op_add pe_int (pe_callB (call_lenK K rfl) (by rfl) n_len PySem.boot_len (pa_cons (pe_slice (sl_listK K rfl) (pv 0) po_none (po_some pe_int)) pa_nil))) (pa_cons pe_int pa_nil)))))))), ?_⟩
    refine ⟨_, rfl, 63, rfl, a, _, rfl, hS, fun p1 n1 => ?_⟩
    refine ⟨p1, _, rfl, .inl (SqL.of upd_same), fun p2 n2 => ?_⟩
    have s1 : Same H (upd H p1 (.lst (cutV (ns.map V.int) none (some 63)))) := same_upd n1
    have s2 := s1.trans (same_upd (o := .lst (cutV (ns.map V.int) none (some 63))) n2)
    refine ⟨_, rfl, 63, rfl, a, _, rfl, s2.seq hS, fun p3 n3 => ?_⟩
    have s3 := s2.trans (same_upd (o := .lst (cutV (ns.map V.int) none (some 63))) n3)
    refine ⟨p3, _, rfl, .inl (SqL.of upd_same), _, _, rfl, rfl, (by show 5 ≤ sizeLine; decide), fun p4 n4 => ?_⟩
    have s4 := s3.trans (same_upd (o := .lst (bagL p2 0 0 (977 + ((cutV (ns.map V.int) none (some 63)).length : Int)) 0)) n4)
    have e0 : cutV (ns.map V.int) none (some 63) = (ns.take 63).map V.int := by
      unfold cutV
      rw [HT.sIx_none, show HT.sIx (ns.map V.int).length (ns.map V.int).length (some 63) = min 63 (ns.map V.int).length from HT.sIx_nat _ _ 63]
      simp only [List.drop_zero, Nat.sub_zero, List.length_map, List.map_take]
      by_cases h : ns.length ≤ 63
      · rw [Nat.min_eq_right h, List.take_of_length_le (by simp), List.take_of_length_le (by simpa using h)]
      · rw [Nat.min_eq_left (by omega)]
    have n42 : p4 ≠ p2 := fun z => by
      rw [z, upd_ne (ne_of_none upd_same n3), upd_same] at n4
      cases n4
    refine q _ (p4, p2) s4 (s3.free n4) ⟨ns.take 63, 0, 0, _, 0, upd_same, ?_, n42.symm, by omega, ?_, ?_⟩
    · rw [upd_ne n42.symm, upd_ne (ne_of_none upd_same n3), upd_same, e0]
    · omega
    · rw [e0, List.length_map, List.length_take]
      omega
theorem sc__law_pick : FnScope ["_law_bag_here", "_law_top", "_law_cell", "_law_digit"] ["_law_bag_here", "_law_top"] (defScope s__law_pick) := ⟨rfl, rfl, rfl, by decide +kernel, rfl, by decide +kernel, by decide +kernel⟩
theorem ok__law_pick {f : Addr} {fd : FuncData} {k : Nat} (F : Fun K "_law_pick" "_law_pick" s__law_pick f fd) (n_len : mg "len" = none) : FnOk P w K mg base CX0 (k + 1) f fd ["_law_bag_here", "_law_top"] spPick := by
  have sc := sc__law_pick
  refine F.ok sc (fun vs H Q E h => ?_) (fun cdv A outer s H vs Q E hr h => ?_)
  · obtain ⟨b, top, rfl, _⟩ := h
    rfl
  · obtain ⟨⟨b, sa⟩, top, rfl, ⟨ns, i, r, x, c, hb, hs, hne, hi, hx0, hx1⟩, ht0, ht1, q⟩ := h
    refine ⟨_, (pss_cons (ps_if (PW.pt (pw_and (pt_cmpR op_lt (pe_ix (ix_listK K rfl) (pv 0) pe_int (fun _ _ => rfl)) (pv 1) (nomark _)) (pw_and1 (pt_cmpR op_lt (pe_ix (ix_listK K rfl) (pv 0) pe_int (fun _ _ => rfl)) (pe_callB (call_lenK K rfl) (by rfl) n_len PySem.boot_len (pa_cons (pe_ix (ix_listK K rfl) (pv 0) pe_int (fun _ _ => rfl)) pa_nil)) (nomark _)))))
  (pss_cons (ps_set (i := 2) sc.nd rfl (.inl rfl) (pe_ix (ix_listK K rfl) (pe_ix (ix_listK K rfl) (pv 0) pe_int (fun _ _ => rfl)) (pe_ix (ix_listK K rfl) (pv 0) pe_int (fun _ _ => rfl)) (fun _ _ => rfl)))
 (pss_cons (ps_asg (pe_op op_add (pe_ix (ix_listK K rfl) (pv 0) pe_int (fun _ _ => rfl)) pe_int) (pg_sub (pv 0) pe_int set_list))
 (pss_cons (ps_asg (pe_op op_mod (pe_op op_add (pe_op op_add (pe_op op_mul (pe_ix (ix_listK K rfl) (pv 0) pe_int (fun _ _ => rfl)) pe_int) (pv 2)) (pe_ix (ix_listK K rfl) (pv 0) pe_int (fun _ _ => rfl))) pe_int) (pg_sub (pv 0) pe_int set_list))
 (pss_one (ps_asg (pe_ifExp (pt_cmpR op_ge (pv 2) (pe_op op_pow pe_int pe_int) (nomark _)) (pv 2) pe_int) (pg_sub (pv 0) pe_int set_list))))))
  pss_nil)
 (pss_cons (ps_if (pt_cmpR op_ge (pe_ix (ix_listK K rfl) (pv 0) pe_int (fun _ _ => rfl)) (pv 1) (nomark _))
  (pss_cons (ps_set (i := 3) sc.nd rfl (.inl rfl) (pe_op op_mod (pe_ix (ix_listK K rfl) (pv 0) pe_int (fun _ _ => rfl)) (pv 1)))
 (pss_cons (ps_asg (pe_op op_fdiv (pe_ix (ix_listK K rfl) (pv 0) pe_int (fun _ _ => rfl)) (pv 1)) (pg_sub (pv 0) pe_int set_list))
 (pss_one (ps_ret (pv 3)))))
  pss_nil)
 (pss_cons (ps_asg (pe_op op_add (pe_ix (ix_listK K rfl) (pv 0) pe_int (fun _ _ => rfl)) pe_int) (pg_sub (pv 0) pe_int set_list))
 (pss_cons (ps_asg (pe_op op_mod (pe_op op_add (pe_op op_add (pe_op op_add (pe_op op_pow (pe_ix (ix_listK K rfl) (pv 0) pe_int (fun _ _ => rfl)) pe_int) (pe_op op_mul pe_int (pe_ix (ix_listK K rfl) (pv 0) pe_int (fun _ _ => rfl)))) (pe_op op_fdiv (pe_ix (ix_listK K rfl) (pv 0) pe_int (fun _ _ => rfl)) pe_int)) pe_int) pe_int) (pg_sub (pv 0) pe_int set_list))
 (pss_one (ps_ret (pe_op op_mod (pe_op op_fdiv (pe_ix (ix_listK K rfl) (pv 0) pe_int (fun _ _ => rfl)) pe_int) (pv 1)))))))), ?_⟩
    refine seq_by (J := fun σ1 H1 => ∃ (y2 : Option V) (i r x c : Int), σ1 = [some (.ref b), some (.int top), y2, none] ∧ H1 b = some (.lst (bagL sa i r x c)) ∧ H1 sa = some (.lst (ns.map V.int)) ∧ Mv b H H1 ∧ 0 ≤ i ∧ 0 ≤ x ∧ x < 2147483648) ?_ (fun rest => ?_)
    · rintro σ1 H1 ⟨y2, i, r, x, c, rfl, hb, hs, mv, hi, hx0, hx1⟩
      refine ⟨_, rfl, b, _, 2, .int r, rfl, rfl, SqL.of hb, rfl, _, rfl, r, top, rfl, rfl, _, rfl, ite2 (fun e => ?_) (fun e => ?_)⟩
      · refine ⟨_, rfl, b, _, 2, .int r, rfl, rfl, SqL.of hb, rfl, _, rfl, r, top, rfl, rfl, ht0, ?_⟩
        refine ⟨_, rfl, b, _, 2, .int r, rfl, rfl, SqL.of hb, rfl, _, rfl, r, top, rfl, rfl, ⟨ht0, ht1⟩, ?_⟩
        refine ⟨_, rfl, b, _, 2, 2, rfl, rfl, hb, rfl, ?_⟩
        refine ⟨_, rfl, ?_⟩
        refine q _ _ mv.upd ⟨ns, i, _, x, c, upd_same, ?_, hne, hi, hx0, hx1⟩ (Int.emod_nonneg _ (by omega)) (Int.emod_lt_of_pos _ ht0)
        rw [upd_ne hne]
        exact hs
      · refine ⟨_, rfl, b, _, 4, .int c, rfl, rfl, SqL.of hb, rfl, c, 1, rfl, rfl, _, rfl, b, _, 4, 4, rfl, rfl, hb, rfl, ?_⟩
        have hb2 : upd H1 b (.lst (bagL sa i r x (c + 1))) b = some (.lst (bagL sa i r x (c + 1))) := upd_same
        refine ⟨_, rfl, b, _, 3, .int x, rfl, rfl, SqL.of hb2, rfl, x, 3, rfl, rfl, ⟨by decide, by decide, by omega⟩, ?_⟩
        refine ⟨_, rfl, b, _, 4, .int (c + 1), rfl, rfl, SqL.of hb2, rfl, 40503, c + 1, rfl, rfl, .inl ⟨by decide, by decide⟩, _, _, rfl, rfl, ?_⟩
        refine ⟨_, rfl, b, _, 3, .int x, rfl, rfl, SqL.of hb2, rfl, x, 65537, rfl, rfl, ⟨by decide, by decide⟩, _, _, rfl, rfl, _, _, rfl, rfl, _, _, rfl, rfl, (by show (0 : Int) < 2147483629; decide), ?_⟩
        refine ⟨_, rfl, b, _, 3, 3, rfl, rfl, hb2, rfl, ?_⟩
        rw [upd_upd]
        obtain ⟨z, hz⟩ : ∃ z, (x ^ Int.toNat 3 + 40503 * (c + 1) + x / 65537 + 11) % 2147483629 = z := ⟨_, rfl⟩
        have ez : (bagL sa i r x (c + 1)).set 3 ((fun i j => V.int (i % j)) (x ^ Int.toNat 3 + 40503 * (c + 1) + x / 65537 + 11) 2147483629) = bagL sa i r z (c + 1) := by rw [← hz]; rfl
        rw [ez]
        have z0 : 0 ≤ z := by rw [← hz]; exact Int.emod_nonneg _ (by decide)
        have z1 : z < 2147483648 := by
          have : z < 2147483629 := by rw [← hz]; exact Int.emod_lt_of_pos _ (by decide)
          omega
        have hb3 : upd H1 b (.lst (bagL sa i r z (c + 1))) b = some (.lst (bagL sa i r z (c + 1))) := upd_same
        refine ⟨_, rfl, b, _, 3, .int z, rfl, rfl, SqL.of hb3, rfl, z, 16, rfl, rfl, ⟨by decide, by decide⟩, _, rfl, _, top, rfl, rfl, ht0, ?_⟩
        refine q _ _ mv.upd ⟨ns, i, r, z, c + 1, upd_same, ?_, hne, hi, z0, z1⟩ (Int.emod_nonneg _ (by omega)) (Int.emod_lt_of_pos _ ht0)
        rw [upd_ne hne]
        exact hs
    · refine ⟨_, rfl, b, _, 2, .int r, rfl, rfl, SqL.of hb, rfl, _, rfl, r, top, rfl, rfl, _, rfl, ite2 (fun e => ?_) (fun e => ?_)⟩
      · refine ⟨_, rfl, b, _, 1, .int i, rfl, rfl, SqL.of hb, rfl, _, rfl, b, _, 0, .ref sa, rfl, rfl, SqL.of hb, rfl, sa, _, rfl, .inl (SqL.of hs), i, _, rfl, rfl, _, rfl, ite2 (fun e2 => ?_) (fun e2 => ?_)⟩
        · have hlt : i < (ns.length : Int) := by
            have := of_decide_eq_true e2
            rw [List.length_map] at this
            exact this
          obtain ⟨z, hz⟩ : ∃ z, ns[i.toNat]? = some z := ⟨_, List.getElem?_eq_getElem (by omega)⟩
          have hat : atI (ns.map V.int) i = some (.int z) := by
            have := atI_nat (xs := ns.map V.int) (j := i.toNat) (v := .int z) (by rw [List.getElem?_map, hz]; rfl)
            rwa [Int.toNat_of_nonneg hi] at this
          refine ⟨_, rfl, b, _, 0, .ref sa, rfl, rfl, SqL.of hb, rfl, _, rfl, b, _, 1, .int i, rfl, rfl, SqL.of hb, rfl, sa, _, i, _, rfl, rfl, SqL.of hs, hat, ?_⟩
          refine ⟨_, rfl, b, _, 1, .int i, rfl, rfl, SqL.of hb, rfl, i, 1, rfl, rfl, _, rfl, b, _, 1, 1, rfl, rfl, hb, rfl, ?_⟩
          have hb2 : upd H b (.lst (bagL sa (i + 1) r x c)) b = some (.lst (bagL sa (i + 1) r x c)) := upd_same
          refine ⟨_, rfl, b, _, 3, .int x, rfl, rfl, SqL.of hb2, rfl, x, 48271, rfl, rfl, .inr ⟨by decide, by decide⟩, _, rfl, _, z, rfl, rfl, ?_⟩
          refine ⟨_, rfl, b, _, 1, .int (i + 1), rfl, rfl, SqL.of hb2, rfl, _, _, rfl, rfl, _, _, rfl, rfl, (by show (0 : Int) < 2147483629; decide), ?_⟩
          refine ⟨_, rfl, b, _, 3, 3, rfl, rfl, hb2, rfl, ?_⟩
          rw [upd_upd]
          obtain ⟨y, hy⟩ : ∃ y, (x * 48271 + z + (i + 1)) % 2147483629 = y := ⟨_, rfl⟩
          have ey : (bagL sa (i + 1) r x c).set 3 ((fun i j => V.int (i % j)) (x * 48271 + z + (i + 1)) 2147483629) = bagL sa (i + 1) r y c := by rw [← hy]; rfl
          rw [ey]
          have y0 : 0 ≤ y := by rw [← hy]; exact Int.emod_nonneg _ (by decide)
          have y1 : y < 2147483648 := by
            have : y < 2147483629 := by rw [← hy]; exact Int.emod_lt_of_pos _ (by decide)
            omega
          have hb3 : upd H b (.lst (bagL sa (i + 1) r y c)) b = some (.lst (bagL sa (i + 1) r y c)) := upd_same
          have hne2 : ∀ o : HO, upd H b o sa = some (.lst (ns.map V.int)) := fun o => by
            rw [upd_ne hne]
            exact hs
          refine ⟨_, rfl, 10, 18, rfl, rfl, ⟨by decide, by decide, by decide⟩, z, _, rfl, rfl, _, rfl, ite2 (fun e3 => ?_) (fun e3 => ?_)⟩
          · refine ⟨_, rfl, _, rfl, b, _, 2, 2, rfl, rfl, hb3, rfl, ?_⟩
            rw [upd_upd]
            exact rest _ _ ⟨some (.int z), i + 1, z, y, c, rfl, upd_same, hne2 _, (Mv.refl _ _).upd, by omega, y0, y1⟩
          · refine ⟨_, rfl, b, _, 2, 2, rfl, rfl, hb3, rfl, ?_⟩
            rw [upd_upd]
            exact rest _ _ ⟨some (.int z), i + 1, 0, y, c, rfl, upd_same, hne2 _, (Mv.refl _ _).upd, by omega, y0, y1⟩
        · exact rest _ _ ⟨none, i, r, x, c, rfl, hb, hs, Mv.refl _ _, hi, hx0, hx1⟩
      · exact rest _ _ ⟨none, i, r, x, c, rfl, hb, hs, Mv.refl _ _, hi, hx0, hx1⟩
def spPickW : Sp := fun vs H Q _ => ∃ (b : Addr × Addr) (top : Int), vs = [.ref b.1, .int top] ∧ Bag b H ∧ 0 < top ∧ top ≤ 18446744073709551616 ∧ ∀ (H' : Hp) (d : Int), Mv b.1 H H' → Bag b H' → 0 ≤ d → d < top → Q (.int d) H'
theorem log_leW {z : Int} (h : z.natAbs < 2 ^ 65) : Nat.log2 z.natAbs < 9000 := by
  by_cases e : z.natAbs = 0
  · rw [e]
    decide
  · exact Nat.lt_trans ((Nat.log2_lt e).mpr h) (by decide)
theorem ok__law_pickW {f : Addr} {fd : FuncData} {k : Nat} (F : Fun K "_law_pick" "_law_pick" s__law_pick f fd) (n_len : mg "len" = none) : FnOk P w K mg base CX0 (k + 1) f fd ["_law_bag_here", "_law_top"] spPickW := by
  have sc := sc__law_pick
  refine F.ok sc (fun vs H Q E h => ?_) (fun cdv A outer s H vs Q E hr h => ?_)
  · obtain ⟨b, top, rfl, _⟩ := h
    rfl
  · obtain ⟨⟨b, sa⟩, top, rfl, ⟨ns, i, r, x, c, hb, hs, hne, hi, hx0, hx1⟩, ht0, ht1, q⟩ := h
    refine ⟨_, (pss_cons (ps_if (PW.pt (pw_and (pt_cmpR op_lt (pe_ix (ix_listK K rfl) (pv 0) pe_int (fun _ _ => rfl)) (pv 1) (nomark _)) (pw_and1 (pt_cmpR op_lt (pe_ix (ix_listK K rfl) (pv 0) pe_int (fun _ _ => rfl)) (pe_callB (call_lenK K rfl) (by rfl) n_len PySem.boot_len (pa_cons (pe_ix (ix_listK K rfl) (pv 0) pe_int (fun _ _ => rfl)) pa_nil)) (nomark _)))))
  (pss_cons (ps_set (i := 2) sc.nd rfl (.inl rfl) (pe_ix (ix_listK K rfl) (pe_ix (ix_listK K rfl) (pv 0) pe_int (fun _ _ => rfl)) (pe_ix (ix_listK K rfl) (pv 0) pe_int (fun _ _ => rfl)) (fun _ _ => rfl)))
 (pss_cons (ps_asg (pe_op op_add (pe_ix (ix_listK K rfl) (pv 0) pe_int (fun _ _ => rfl)) pe_int) (pg_sub (pv 0) pe_int set_list))
 (pss_cons (ps_asg (pe_op op_mod (pe_op op_add (pe_op op_add (pe_op op_mul (pe_ix (ix_listK K rfl) (pv 0) pe_int (fun _ _ => rfl)) pe_int) (pv 2)) (pe_ix (ix_listK K rfl) (pv 0) pe_int (fun _ _ => rfl))) pe_int) (pg_sub (pv 0) pe_int set_list))
 (pss_one (ps_asg (pe_ifExp (pt_cmpR op_ge (pv 2) (pe_op op_pow pe_int pe_int) (nomark _)) (pv 2) pe_int) (pg_sub (pv 0) pe_int set_list))))))
  pss_nil)
 (pss_cons (ps_if (pt_cmpR op_ge (pe_ix (ix_listK K rfl) (pv 0) pe_int (fun _ _ => rfl)) (pv 1) (nomark _))
  (pss_cons (ps_set (i := 3) sc.nd rfl (.inl rfl) (pe_op op_mod (pe_ix (ix_listK K rfl) (pv 0) pe_int (fun _ _ => rfl)) (pv 1)))
 (pss_cons (ps_asg (pe_op op_fdivW (pe_ix (ix_listK K rfl) (pv 0) pe_int (fun _ _ => rfl)) (pv 1)) (pg_sub (pv 0) pe_int set_list))
 (pss_one (ps_ret (pv 3)))))
  pss_nil)
 (pss_cons (ps_asg (pe_op op_add (pe_ix (ix_listK K rfl) (pv 0) pe_int (fun _ _ => rfl)) pe_int) (pg_sub (pv 0) pe_int set_list))
 (pss_cons (ps_asg (pe_op op_mod (pe_op op_add (pe_op op_add (pe_op op_add (pe_op op_pow (pe_ix (ix_listK K rfl) (pv 0) pe_int (fun _ _ => rfl)) pe_int) (pe_op op_mul pe_int (pe_ix (ix_listK K rfl) (pv 0) pe_int (fun _ _ => rfl)))) (pe_op op_fdivW (pe_ix (ix_listK K rfl) (pv 0) pe_int (fun _ _ => rfl)) pe_int)) pe_int) pe_int) (pg_sub (pv 0) pe_int set_list))
 (pss_one (ps_ret (pe_op op_mod (pe_op op_fdivW (pe_ix (ix_listK K rfl) (pv 0) pe_int (fun _ _ => rfl)) pe_int) (pv 1)))))))), ?_⟩
    refine seq_by (J := fun σ1 H1 => ∃ (y2 : Option V) (i r x c : Int), σ1 = [some (.ref b), some (.int top), y2, none] ∧ H1 b = some (.lst (bagL sa i r x c)) ∧ H1 sa = some (.lst (ns.map V.int)) ∧ Mv b H H1 ∧ 0 ≤ i ∧ 0 ≤ x ∧ x < 2147483648) ?_ (fun rest => ?_)
    · rintro σ1 H1 ⟨y2, i, r, x, c, rfl, hb, hs, mv, hi, hx0, hx1⟩
      refine ⟨_, rfl, b, _, 2, .int r, rfl, rfl, SqL.of hb, rfl, _, rfl, r, top, rfl, rfl, _, rfl, ite2 (fun e => ?_) (fun e => ?_)⟩
      · refine ⟨_, rfl, b, _, 2, .int r, rfl, rfl, SqL.of hb, rfl, _, rfl, r, top, rfl, rfl, ht0, ?_⟩
        refine ⟨_, rfl, b, _, 2, .int r, rfl, rfl, SqL.of hb, rfl, _, rfl, r, top, rfl, rfl, ⟨ht0, log_leW (by omega)⟩, ?_⟩
        refine ⟨_, rfl, b, _, 2, 2, rfl, rfl, hb, rfl, ?_⟩
        refine ⟨_, rfl, ?_⟩
        refine q _ _ mv.upd ⟨ns, i, _, x, c, upd_same, ?_, hne, hi, hx0, hx1⟩ (Int.emod_nonneg _ (by omega)) (Int.emod_lt_of_pos _ ht0)
        rw [upd_ne hne]
        exact hs
      · refine ⟨_, rfl, b, _, 4, .int c, rfl, rfl, SqL.of hb, rfl, c, 1, rfl, rfl, _, rfl, b, _, 4, 4, rfl, rfl, hb, rfl, ?_⟩
        have hb2 : upd H1 b (.lst (bagL sa i r x (c + 1))) b = some (.lst (bagL sa i r x (c + 1))) := upd_same
        refine ⟨_, rfl, b, _, 3, .int x, rfl, rfl, SqL.of hb2, rfl, x, 3, rfl, rfl, ⟨by decide, by decide, by omega⟩, ?_⟩
        refine ⟨_, rfl, b, _, 4, .int (c + 1), rfl, rfl, SqL.of hb2, rfl, 40503, c + 1, rfl, rfl, .inl ⟨by decide, by decide⟩, _, _, rfl, rfl, ?_⟩
        refine ⟨_, rfl, b, _, 3, .int x, rfl, rfl, SqL.of hb2, rfl, x, 65537, rfl, rfl, ⟨by decide, log_leW (by decide)⟩, _, _, rfl, rfl, _, _, rfl, rfl, _, _, rfl, rfl, (by show (0 : Int) < 2147483629; decide), ?_⟩
        refine ⟨_, rfl, b, _, 3, 3, rfl, rfl, hb2, rfl, ?_⟩
        rw [upd_upd]
        obtain ⟨z, hz⟩ : ∃ z, (x ^ Int.toNat 3 + 40503 * (c + 1) + x / 65537 + 11) % 2147483629 = z := ⟨_, rfl⟩
        have ez : (bagL sa i r x (c + 1)).set 3 ((fun i j => V.int (i % j)) (x ^ Int.toNat 3 + 40503 * (c + 1) + x / 65537 + 11) 2147483629) = bagL sa i r z (c + 1) := by rw [← hz]; rfl
        rw [ez]
        have z0 : 0 ≤ z := by rw [← hz]; exact Int.emod_nonneg _ (by decide)
        have z1 : z < 2147483648 := by
          have : z < 2147483629 := by rw [← hz]; exact Int.emod_lt_of_pos _ (by decide)
          omega
        have hb3 : upd H1 b (.lst (bagL sa i r z (c + 1))) b = some (.lst (bagL sa i r z (c + 1))) := upd_same
        refine ⟨_, rfl, b, _, 3, .int z, rfl, rfl, SqL.of hb3, rfl, z, 16, rfl, rfl, ⟨by decide, log_leW (by decide)⟩, _, rfl, _, top, rfl, rfl, ht0, ?_⟩
        refine q _ _ mv.upd ⟨ns, i, r, z, c + 1, upd_same, ?_, hne, hi, z0, z1⟩ (Int.emod_nonneg _ (by omega)) (Int.emod_lt_of_pos _ ht0)
        rw [upd_ne hne]
        exact hs
    · refine ⟨_, rfl, b, _, 2, .int r, rfl, rfl, SqL.of hb, rfl, _, rfl, r, top, rfl, rfl, _, rfl, ite2 (fun e => ?_) (fun e => ?_)⟩
      · refine ⟨_, rfl, b, _, 1, .int i, rfl, rfl, SqL.of hb, rfl, _, rfl, b, _, 0, .ref sa, rfl, rfl, SqL.of hb, rfl, sa, _, rfl, .inl (SqL.of hs), i, _, rfl, rfl, _, rfl, ite2 (fun e2 => ?_) (fun e2 => ?_)⟩
        · have hlt : i < (ns.length : Int) := by
            have := of_decide_eq_true e2
            rw [List.length_map] at this
            exact this
          obtain ⟨z, hz⟩ : ∃ z, ns[i.toNat]? = some z := ⟨_, List.getElem?_eq_getElem (by omega)⟩
          have hat : atI (ns.map V.int) i = some (.int z) := by
            have := atI_nat (xs := ns.map V.int) (j := i.toNat) (v := .int z) (by rw [List.getElem?_map, hz]; rfl)
            rwa [Int.toNat_of_nonneg hi] at this
          refine ⟨_, rfl, b, _, 0, .ref sa, rfl, rfl, SqL.of hb, rfl, _, rfl, b, _, 1, .int i, rfl, rfl, SqL.of hb, rfl, sa, _, i, _, rfl, rfl, SqL.of hs, hat, ?_⟩
          refine ⟨_, rfl, b, _, 1, .int i, rfl, rfl, SqL.of hb, rfl, i, 1, rfl, rfl, _, rfl, b, _, 1, 1, rfl, rfl, hb, rfl, ?_⟩
          have hb2 : upd H b (.lst (bagL sa (i + 1) r x c)) b = some (.lst (bagL sa (i + 1) r x c)) := upd_same
          refine ⟨_, rfl, b, _, 3, .int x, rfl, rfl, SqL.of hb2, rfl, x, 48271, rfl, rfl, .inr ⟨by decide, by decide⟩, _, rfl, _, z, rfl, rfl, ?_⟩
          refine ⟨_, rfl, b, _, 1, .int (i + 1), rfl, rfl, SqL.of hb2, rfl, _, _, rfl, rfl, _, _, rfl, rfl, (by show (0 : Int) < 2147483629; decide), ?_⟩
          refine ⟨_, rfl, b, _, 3, 3, rfl, rfl, hb2, rfl, ?_⟩
          rw [upd_upd]
          obtain ⟨y, hy⟩ : ∃ y, (x * 48271 + z + (i + 1)) % 2147483629 = y := ⟨_, rfl⟩
          have ey : (bagL sa (i + 1) r x c).set 3 ((fun i j => V.int (i % j)) (x * 48271 + z + (i + 1)) 2147483629) = bagL sa (i + 1) r y c := by rw [← hy]; rfl
          rw [ey]
          have y0 : 0 ≤ y := by rw [← hy]; exact Int.emod_nonneg _ (by decide)
          have y1 : y < 2147483648 := by
            have : y < 2147483629 := by rw [← hy]; exact Int.emod_lt_of_pos _ (by decide)
            omega
          have hb3 : upd H b (.lst (bagL sa (i + 1) r y c)) b = some (.lst (bagL sa (i + 1) r y c)) := upd_same
          have hne2 : ∀ o : HO, upd H b o sa = some (.lst (ns.map V.int)) := fun o => by
            rw [upd_ne hne]
            exact hs
          refine ⟨_, rfl, 10, 18, rfl, rfl, ⟨by decide, by decide, by decide⟩, z, _, rfl, rfl, _, rfl, ite2 (fun e3 => ?_) (fun e3 => ?_)⟩
          · refine ⟨_, rfl, _, rfl, b, _, 2, 2, rfl, rfl, hb3, rfl, ?_⟩
            rw [upd_upd]
            exact rest _ _ ⟨some (.int z), i + 1, z, y, c, rfl, upd_same, hne2 _, (Mv.refl _ _).upd, by omega, y0, y1⟩
          · refine ⟨_, rfl, b, _, 2, 2, rfl, rfl, hb3, rfl, ?_⟩
            rw [upd_upd]
            exact rest _ _ ⟨some (.int z), i + 1, 0, y, c, rfl, upd_same, hne2 _, (Mv.refl _ _).upd, by omega, y0, y1⟩
        · exact rest _ _ ⟨none, i, r, x, c, rfl, hb, hs, Mv.refl _ _, hi, hx0, hx1⟩
      · exact rest _ _ ⟨none, i, r, x, c, rfl, hb, hs, Mv.refl _ _, hi, hx0, hx1⟩
theorem sc__law_of : FnScope ["_law_bag_here", "_law_some"] ["_law_bag_here", "_law_some"] (defScope s__law_of) := ⟨rfl, rfl, rfl, by decide +kernel, rfl, by decide +kernel, by decide +kernel⟩
theorem ok__law_of {f : Addr} {fd : FuncData} {k : Nat} (F : Fun K "_law_of" "_law_of" s__law_of f fd) (n_len : mg "len" = none) (c__law_pick : Cal P w K mg base k "_law_pick" ["_law_bag_here", "_law_top"] spPick) : FnOk P w K mg base CX0 (k + 1) f fd ["_law_bag_here", "_law_some"] (spOf K) := by
  have sc := sc__law_of
  refine F.ok sc (fun vs H Q E h => ?_) (fun cdv A outer s H vs Q E hr h => ?_)
  · obtain ⟨b, l, xs, rfl, _⟩ := h
    rfl
  · obtain ⟨b, l, xs, rfl, hB, hne, hl, h0, h1, q⟩ := h
    refine ⟨_, (pss_one (ps_ret (pe_ix (ix_listK K rfl) (pv 1) (pe_callC c__law_pick hr (by rfl) (pa_cons (pv 0) (pa_cons (pe_callB (call_lenK K rfl) (by rfl) n_len PySem.boot_len (pa_cons (pv 1) pa_nil)) pa_nil))) (fun _ _ => rfl)))), ?_⟩
    refine ⟨_, rfl, _, rfl, _, rfl, l, xs, rfl, .inl (SqL.of hl), b, _, rfl, hB, by omega, by omega, fun H' d mv hB' d0 d1 => ?_⟩
    obtain ⟨v, hv⟩ : ∃ v, xs[d.toNat]? = some v := ⟨_, List.getElem?_eq_getElem (by omega)⟩
    have hat : atI xs d = some v := by
      have := atI_nat (xs := xs) (j := d.toNat) (v := v) hv
      rwa [Int.toNat_of_nonneg d0] at this
    exact ⟨l, xs, d, v, rfl, rfl, SqL.of (mv l _ hne hl), hat, q H' v mv hB' (List.mem_of_getElem? hv)⟩
theorem sc__law_same : FnScope ["_law_found", "_law_due", "_law_spot"] ["_law_found", "_law_due"] (defScope s__law_same) := ⟨rfl, rfl, rfl, by decide +kernel, rfl, by decide +kernel, by decide +kernel⟩
theorem ok__law_same {f : Addr} {fd : FuncData} (F : Fun K "_law_same" "_law_same" s__law_same f fd) (gS : mg "_law_same" = some (.ref f)) (bS : Binds K fd ["_law_found", "_law_due"] []) (n_len : mg "len" = none) (n_all : mg "all" = none) (n_bool : mg "bool" = none) (n_int : mg "int" = none)
    (n_isinstance : mg "isinstance" = none) (n_list : mg "list" = none) (n_range : mg "range" = none) (n_str : mg "str" = none) (n_tuple : mg "tuple" = none) : ∀ n : Nat, FnOk P w K mg base CX0 n f fd ["_law_found", "_law_due"] (spSame K n)
  | 0 => ⟨fun vs H Q E h => by obtain ⟨x, y, d, _, _, _, h, _⟩ := h; exact h.elim, fun A outer s H args us vs Q E hr e0 bt r h => by obtain ⟨x, y, d, _, _, _, h, _⟩ := h; exact h.elim⟩
  | n + 1 => by
    have c__law_same : Cal P w K mg base n "_law_same" ["_law_found", "_law_due"] (spSame K n) := ⟨f, fd, ok__law_same F gS bS n_len n_all n_bool n_int n_isinstance n_list n_range n_str n_tuple n, gS, F.kp, bS⟩
    have sc := sc__law_same
    refine F.ok sc (fun vs H Q E h => ?_) (fun cdv A outer s H vs Q E hr h => ?_)
    · obtain ⟨x, y, d, rfl, _⟩ := h
      rfl
    · obtain ⟨x, y, d, rfl, dx, dy, dn, sd, q⟩ := h
      have tx := ty_dp dx
      have ty := ty_dp dy
      refine ⟨_, (pss_cons (ps_if (pt_cmpR op_isN (pv 1) pe_non (nomark _))
  (pss_one (ps_ret (pe_cmpR op_isN (pv 0) pe_non (nomark _))))
  pss_nil)
 (pss_cons (ps_if (PW.pt (pw_or (pt_val (pe_callB (call_isiK1 K rfl) (by rfl) n_isinstance (by decide +kernel) (pa_cons (pv 1) (pa_cons (pe_bltn (v := .ty "bool") (by rfl) n_bool (by decide +kernel) rfl) pa_nil)))) (pw_or1 (pt_val (pe_callB (call_isiK1 K rfl) (by rfl) n_isinstance (by decide +kernel) (pa_cons (pv 0) (pa_cons (pe_bltn (v := .ty "bool") (by rfl) n_bool (by decide +kernel) rfl) pa_nil)))))))
  (pss_one (ps_ret (pe_and (pe_callB (call_isiK1 K rfl) (by rfl) n_isinstance (by decide +kernel) (pa_cons (pv 1) (pa_cons (pe_bltn (v := .ty "bool") (by rfl) n_bool (by decide +kernel) rfl) pa_nil))) (pe_and (pe_callB (call_isiK1 K rfl) (by rfl) n_isinstance (by decide +kernel) (pa_cons (pv 0) (pa_cons (pe_bltn (v := .ty "bool") (by rfl) n_bool (by decide +kernel) rfl) pa_nil))) (pe_one (pe_cmpR (op_eqDK K rfl hr.units) (pv 0) (pv 1) (nomark _)))))))
  pss_nil)
 (pss_cons (ps_if (pt_val (pe_callB (call_isiTK K rfl) (by rfl) n_isinstance (by decide +kernel) (pa_cons (pv 1) (pa_cons (pe_tup (pa_cons (pe_bltn (v := .ty "int") (by rfl) n_int (by decide +kernel) rfl) (pa_cons (pe_bltn (v := .ty "str") (by rfl) n_str (by decide +kernel) rfl) pa_nil))) pa_nil))))
  (pss_one (ps_ret (pe_and (pe_callB (call_isiTK K rfl) (by rfl) n_isinstance (by decide +kernel) (pa_cons (pv 0) (pa_cons (pe_tup (pa_cons (pe_bltn (v := .ty "int") (by rfl) n_int (by decide +kernel) rfl) (pa_cons (pe_bltn (v := .ty "str") (by rfl) n_str (by decide +kernel) rfl) pa_nil))) pa_nil))) (pe_and (pe_cmpR op_eq (pe_callB (call_isiK1 K rfl) (by rfl) n_isinstance (by decide +kernel) (pa_cons (pv 0) (pa_cons (pe_bltn (v := .ty "int") (by rfl) n_int (by decide +kernel) rfl) pa_nil))) (pe_callB (call_isiK1 K rfl) (by rfl) n_isinstance (by decide +kernel) (pa_cons (pv 1) (pa_cons (pe_bltn (v := .ty "int") (by rfl) n_int (by decide +kernel) rfl) pa_nil))) (nomark _)) (pe_one (pe_cmpR (op_eqDK K rfl hr.units) (pv 0) (pv 1) (nomark _)))))))
  pss_nil)
 (pss_cons (ps_if (PW.pt (pw_or (pt_cmpR op_ne (pe_callB (call_isiK1 K rfl) (by rfl) n_isinstance (by decide +kernel) (pa_cons (pv 1) (pa_cons (pe_bltn (v := .ty "list") (by rfl) n_list (by decide +kernel) rfl) pa_nil))) (pe_callB (call_isiK1 K rfl) (by rfl) n_isinstance (by decide +kernel) (pa_cons (pv 0) (pa_cons (pe_bltn (v := .ty "list") (by rfl) n_list (by decide +kernel) rfl) pa_nil))) (nomark _)) (pw_or1 (pt_cmpR op_ne (pe_callB (call_isiK1 K rfl) (by rfl) n_isinstance (by decide +kernel) (pa_cons (pv 1) (pa_cons (pe_bltn (v := .ty "tuple") (by rfl) n_tuple (by decide +kernel) rfl) pa_nil))) (pe_callB (call_isiK1 K rfl) (by rfl) n_isinstance (by decide +kernel) (pa_cons (pv 0) (pa_cons (pe_bltn (v := .ty "tuple") (by rfl) n_tuple (by decide +kernel) rfl) pa_nil))) (nomark _)))))
  (pss_one (ps_ret pe_bl))
  pss_nil)
 (pss_cons (ps_if (PW.pt (pw_or (pt_not (pt_val (pe_callB (call_isiTK K rfl) (by rfl) n_isinstance (by decide +kernel) (pa_cons (pv 0) (pa_cons (pe_tup (pa_cons (pe_bltn (v := .ty "list") (by rfl) n_list (by decide +kernel) rfl) (pa_cons (pe_bltn (v := .ty "tuple") (by rfl) n_tuple (by decide +kernel) rfl) pa_nil))) pa_nil))))) (pw_or1 (pt_cmpR op_ne (pe_callB (call_lenK K rfl) (by rfl) n_len PySem.boot_len (pa_cons (pv 0) pa_nil)) (pe_callB (call_lenK K rfl) (by rfl) n_len PySem.boot_len (pa_cons (pv 1) pa_nil)) (nomark _)))))
  (pss_one (ps_ret pe_bl))
  pss_nil)
 (pss_one (ps_ret (pe_callB (cr_allK K rfl rfl) (by rfl) n_all (by decide +kernel) (pa_cons (pe_lc (own := [("_law_spot", 2)]) (g := gName 2) (by rfl) sc.nd (pi_range1 (by rfl) n_range (pa_cons (pe_callB (call_lenK K rfl) (by rfl) n_len PySem.boot_len (pa_cons (pv 1) pa_nil)) pa_nil)) (blkOk_by (own := [("_law_spot", 2)]) (N := ["_law_found", "_law_due", "_law_spot"]) (sc := defScope s__law_same) (by decide +kernel)) (fun _ _ _ _ _ => pg_name (i := 2) sc.nd rfl (Or.inl rfl)) (fun _ _ _ _ _ => pts_nil) (fun _ _ _ _ _ => (pe_callC c__law_same hr (by rfl) (pa_cons (pe_ix (ix_seqK K rfl) (pv 0) (pv 2) (fun _ _ => rfl)) (pa_cons (pe_ix (ix_seqK K rfl) (pv 1) (pv 2) (fun _ _ => rfl)) pa_nil))))) pa_nil))))))))), ?_⟩
      have er : PyData.eqv d d = true := SeqAt.eqv_refl d (SeqAt.canLay_of_shaped sd)
      rcases dn with ⟨b, rfl⟩ | ⟨i, rfl⟩ | ⟨z, rfl⟩ | rfl | ⟨ds, hd, hlen, hn⟩
      · have tx : TyX K H x (.type "bool") := tx
        have ty : TyX K H y (.type "bool") := ty
        have kb : PySem.W.kitOne K (.type "bool") (.type "bool") = some true := kit_ty (by decide +kernel)
        have dx' := dx
        have dy' := dy
        cases dx
        cases dy
        refine ⟨_, rfl, rfl, _, rfl, iteF ?_⟩
        refine ⟨_, rfl, _, _, _, _, true, rfl, .ty "bool", ty, kb, _, rfl, iteT ?_⟩
        refine iteT ?_
        refine ⟨_, rfl, _, _, _, _, true, rfl, .ty "bool", ty, kb, true, rfl, iteT ?_⟩
        refine ⟨_, rfl, _, _, _, _, true, rfl, .ty "bool", tx, kb, true, rfl, iteT ?_⟩
        refine ⟨_, rfl, _, rfl, .bool b, .bool b, dx', dy', sd, sd, ?_⟩
        rw [er]
        exact q _ (Same.refl _)
      · have tx : TyX K H x (.type "int") := tx
        have ty : TyX K H y (.type "int") := ty
        have kb : PySem.W.kitOne K (.type "int") (.type "bool") = some false := kit_ty (by decide +kernel)
        have ki : PySem.W.kitOne K (.type "int") (.type "int") = some true := kit_ty (by decide +kernel)
        have dx' := dx
        have dy' := dy
        cases dx
        cases dy
        refine ⟨_, rfl, rfl, _, rfl, iteF ?_⟩
        refine ⟨_, rfl, _, _, _, _, false, rfl, .ty "bool", ty, kb, _, rfl, iteF ?_⟩
        refine ⟨_, rfl, _, _, _, _, false, rfl, .ty "bool", tx, kb, _, rfl, iteF ?_⟩
        refine ⟨_, rfl, (by show 2 ≤ sizeLine; decide), fun p np => ?_⟩
        have s1 : Same H (upd H p (.tup [.ty "int", .ty "str"])) := same_upd np
        refine ⟨_, p, _, _, _, true, rfl, upd_same, .cons (.ty "int") (.cons (.ty "str") .nil), .base (.int i), kitAny_cons ki (fun z => nomatch z) (fun _ => rfl), _, rfl, iteT ?_⟩
        refine ⟨_, rfl, (by show 2 ≤ sizeLine; decide), fun p2 np2 => ?_⟩
        have s2 : Same _ (upd _ p2 (.tup [.ty "int", .ty "str"])) := same_upd np2
        refine ⟨_, p2, _, _, _, true, rfl, upd_same, .cons (.ty "int") (.cons (.ty "str") .nil), .base (.int i), kitAny_cons ki (fun z => nomatch z) (fun _ => rfl), true, rfl, iteT ?_⟩
        refine ⟨_, rfl, _, _, _, _, true, rfl, .ty "int", .base (.int i), ki, ?_⟩
        refine ⟨_, rfl, _, _, _, _, true, rfl, .ty "int", .base (.int i), ki, rfl, true, rfl, iteT ?_⟩
        refine ⟨_, rfl, _, rfl, .int i, .int i, .int i, .int i, sd, sd, ?_⟩
        rw [er]
        exact q _ (s1.trans s2)
      · have tx : TyX K H x (.type "str") := tx
        have ty : TyX K H y (.type "str") := ty
        have kb : PySem.W.kitOne K (.type "str") (.type "bool") = some false := kit_ty (by decide +kernel)
        have ki : PySem.W.kitOne K (.type "str") (.type "int") = some false := kit_ty (by decide +kernel)
        have ks : PySem.W.kitOne K (.type "str") (.type "str") = some true := kit_ty (by decide +kernel)
        have kk : PySem.W.kitAny K (.type "str") [.type "int", .type "str"] = some true := kitAny_cons ki (fun _ => kitAny_cons ks (fun z => nomatch z) (fun _ => rfl)) (fun z => nomatch z)
        cases dx
        cases dy
        refine ⟨_, rfl, rfl, _, rfl, iteF ?_⟩
        refine ⟨_, rfl, _, _, _, _, false, rfl, .ty "bool", ty, kb, _, rfl, iteF ?_⟩
        refine ⟨_, rfl, _, _, _, _, false, rfl, .ty "bool", tx, kb, _, rfl, iteF ?_⟩
        refine ⟨_, rfl, (by show 2 ≤ sizeLine; decide), fun p np => ?_⟩
        have s1 : Same H (upd H p (.tup [.ty "int", .ty "str"])) := same_upd np
        refine ⟨_, p, _, _, _, true, rfl, upd_same, .cons (.ty "int") (.cons (.ty "str") .nil), .base (.str z), kk, _, rfl, iteT ?_⟩
        refine ⟨_, rfl, (by show 2 ≤ sizeLine; decide), fun p2 np2 => ?_⟩
        have s2 : Same _ (upd _ p2 (.tup [.ty "int", .ty "str"])) := same_upd np2
        refine ⟨_, p2, _, _, _, true, rfl, upd_same, .cons (.ty "int") (.cons (.ty "str") .nil), .base (.str z), kk, true, rfl, iteT ?_⟩
        refine ⟨_, rfl, _, _, _, _, false, rfl, .ty "int", .base (.str z), ki, ?_⟩
        refine ⟨_, rfl, _, _, _, _, false, rfl, .ty "int", .base (.str z), ki, rfl, true, rfl, iteT ?_⟩
        refine ⟨_, rfl, _, rfl, .str z, .str z, .str z, .str z, sd, sd, ?_⟩
        rw [er]
        exact q _ (s1.trans s2)
      · cases dx
        cases dy
        refine ⟨_, rfl, rfl, _, rfl, iteT ?_⟩
        exact ⟨_, rfl, rfl, q _ (Same.refl _)⟩
      · -- a list or a tuple
        obtain ⟨ax, ay, xs, ys, nm, rfl, rfl, hsx, hsy, hax, hay, tx, ty, hnm, enm⟩ : ∃ (ax ay : Addr) (xs ys : List V) (nm : String), x = .ref ax ∧ y = .ref ay ∧ (SqL K H ax xs ∨ SqT K H ax xs) ∧ (SqL K H ay ys ∨ SqT K H ay ys) ∧ DpAll K H xs ds ∧ DpAll K H ys ds ∧
            TyX K H x (.type nm) ∧ TyX K H y (.type nm) ∧ (nm = "list" ∨ nm = "tuple") ∧ nm = tyN d := by
          rcases hd with rfl | rfl
          · cases dx with
            | lst h1 h2 =>
              cases dy with
              | lst h3 h4 => exact ⟨_, _, _, _, "list", rfl, rfl, .inl h1, .inl h3, h2, h4, tx, ty, .inl rfl, rfl⟩
          · cases dx with
            | tup h1 h2 =>
              cases dy with
              | tup h3 h4 => exact ⟨_, _, _, _, "tuple", rfl, rfl, .inr h1, .inr h3, h2, h4, tx, ty, .inr rfl, rfl⟩
        have kb : PySem.W.kitOne K (.type nm) (.type "bool") = some false := by rcases hnm with rfl | rfl <;> exact kit_ty (by decide +kernel)
        have ki : PySem.W.kitOne K (.type nm) (.type "int") = some false := by rcases hnm with rfl | rfl <;> exact kit_ty (by decide +kernel)
        have ks : PySem.W.kitOne K (.type nm) (.type "str") = some false := by rcases hnm with rfl | rfl <;> exact kit_ty (by decide +kernel)
        obtain ⟨bl, kl⟩ : ∃ bl, PySem.W.kitOne K (.type nm) (.type "list") = some bl := by
          rcases hnm with rfl | rfl
          · exact ⟨true, kit_ty (by decide +kernel)⟩
          · exact ⟨false, kit_ty (by decide +kernel)⟩
        obtain ⟨bt, kt⟩ : ∃ bt, PySem.W.kitOne K (.type nm) (.type "tuple") = some bt := by
          rcases hnm with rfl | rfl
          · exact ⟨false, kit_ty (by decide +kernel)⟩
          · exact ⟨true, kit_ty (by decide +kernel)⟩
        have kk : PySem.W.kitAny K (.type nm) [.type "int", .type "str"] = some false := kitAny_cons ki (fun _ => kitAny_cons ks (fun _ => rfl) (fun z => nomatch z)) (fun z => nomatch z)
        have kq : PySem.W.kitAny K (.type nm) [.type "list", .type "tuple"] = some true := by
          rcases hnm with rfl | rfl
          · exact kitAny_cons (b := true) (kit_ty (by decide +kernel)) (fun z => nomatch z) (fun _ => rfl)
          · exact kitAny_cons (b := false) (kit_ty (by decide +kernel)) (fun _ => kitAny_cons (b := true) (kit_ty (by decide +kernel)) (fun z => nomatch z) (fun _ => rfl)) (fun z => nomatch z)
        have typ : ∀ {H' : Hp} {v : V}, Same H H' → TyX K H v (.type nm) → (v = .ref ax ∨ v = .ref ay) → TyX K H' v (.type nm) := by
          intro H' v sm h hv
          rw [enm]
          rcases hv with rfl | rfl
          · exact ty_dp (dp_same sm dx)
          · exact ty_dp (dp_same sm dy)
        refine ⟨_, rfl, rfl, _, rfl, iteF ?_⟩
        refine ⟨_, rfl, _, _, _, _, false, rfl, .ty "bool", ty, kb, _, rfl, iteF ?_⟩
        refine ⟨_, rfl, _, _, _, _, false, rfl, .ty "bool", tx, kb, _, rfl, iteF ?_⟩
        refine ⟨_, rfl, (by show 2 ≤ sizeLine; decide), fun p np => ?_⟩
        have s1 : Same H (upd H p (.tup [.ty "int", .ty "str"])) := same_upd np
        refine ⟨_, p, _, _, _, false, rfl, upd_same, .cons (.ty "int") (.cons (.ty "str") .nil), typ s1 ty (.inr rfl), kk, _, rfl, iteF ?_⟩
        refine ⟨_, rfl, _, _, _, _, bl, rfl, .ty "list", typ s1 ty (.inr rfl), kl, ?_⟩
        refine ⟨_, rfl, _, _, _, _, bl, rfl, .ty "list", typ s1 tx (.inl rfl), kl, rfl, _, rfl, ifF (by simp) ?_⟩
        refine ⟨_, rfl, _, _, _, _, bt, rfl, .ty "tuple", typ s1 ty (.inr rfl), kt, ?_⟩
        refine ⟨_, rfl, _, _, _, _, bt, rfl, .ty "tuple", typ s1 tx (.inl rfl), kt, rfl, _, rfl, ifF (by simp) ?_⟩
        refine ⟨_, rfl, (by show 2 ≤ sizeLine; decide), fun p2 np2 => ?_⟩
        have s2 : Same H _ := s1.trans (same_upd (o := .tup [.ty "list", .ty "tuple"]) np2)
        refine ⟨_, p2, _, _, _, true, rfl, upd_same, .cons (.ty "list") (.cons (.ty "tuple") .nil), typ s2 tx (.inl rfl), kq, _, rfl, iteF ?_⟩
        have sq2 : ∀ {H' : Hp} {a : Addr} {zs : List V}, Same H H' → (SqL K H a zs ∨ SqT K H a zs) → (SqL K H' a zs ∨ SqT K H' a zs) := fun sm h => h.elim (fun z => .inl (sm.seq z)) (fun z => .inr (same_t sm z))
        refine ⟨_, rfl, ax, xs, rfl, sq2 s2 hsx, _, rfl, ay, ys, rfl, sq2 s2 hsy, rfl, _, rfl, ifF (by rw [dpa_len hax, dpa_len hay]; simp) ?_⟩
        refine ⟨_, rfl, ay, ys, rfl, sq2 s2 hsy, _, rfl, ?_, ?_, fun D nD => lc_range (lo := 0) (n := ((ys.length : Int)).toNat) (fun i H' => Same H H' ∧ H' D = some (.lst ((List.replicate i true).map V.bl))) ?_ ?_ ?_⟩
        · rw [dpa_len hay]
          omega
        · rw [dpa_len hay]
          omega
        · exact ⟨s2.trans (same_upd nD), upd_same⟩
        · rintro i H' hi ⟨sm, eD⟩
          rw [Int.toNat_natCast] at hi
          have hds : i < ds.length := by rw [← dpa_len hay]; exact hi
          obtain ⟨vx, gx, dvx⟩ := dpa_get hax (List.getElem?_eq_getElem hds)
          obtain ⟨vy, gy, dvy⟩ := dpa_get hay (List.getElem?_eq_getElem hds)
          have ix : ∀ {a : Addr} {zs : List V} {v : V} {Q' : VK}, (SqL K H a zs ∨ SqT K H a zs) → zs[i]? = some v → Q' v H' → rIx K (.ref a) (.int (0 + (i : Int))) H' Q' := by
            intro a zs v Q' h g q'
            have e : atI zs (0 + (i : Int)) = some v := by rw [Int.zero_add]; exact atI_nat g
            rcases sq2 sm h with h | h
            · exact .inl ⟨a, zs, _, v, rfl, rfl, h, e, q'⟩
            · exact .inr (.inl ⟨a, zs, _, v, rfl, rfl, h, e, q'⟩)
          refine ⟨rfl, tYes_by (iteT ?_)⟩
          refine ⟨_, rfl, _, rfl, ix hsx gx ?_⟩
          refine ⟨_, rfl, _, rfl, ix hsy gy ?_⟩
          refine ⟨vx, vy, ds[i], rfl, dp_same sm dvx, dp_same sm dvy, hn _ (List.getElem_mem hds), ?_, fun H2 s4 => ?_⟩
          · exact shaped_mem (List.getElem_mem hds) (hd.elim (fun z => .inl (z ▸ sd)) (fun z => .inr (z ▸ sd)))
          · refine ⟨_, s4 _ _ eD, ?_, ?_, ?_⟩
            · rw [List.length_map, List.length_replicate]
              exact Nat.lt_of_lt_of_le (show i < 100000 by omega) (by decide)
            · exact same_mut (sm.trans s4) (s2.free nD)
            · rw [upd_same, List.replicate_succ', List.map_append]
              rfl
        · rintro H' ⟨sm, eD⟩
          refine ⟨D, _, rfl, SqL.of eD, ?_⟩
          have e : (List.replicate ((ys.length : Int)).toNat true).all id = true := by simp
          rw [e]
          exact q _ sm
theorem sc__law_written : FnScope ["_law_figure", "_law_wide", "_law_found", "_law_k"] ["_law_figure", "_law_wide"] (defScope s__law_written) := ⟨rfl, rfl, rfl, by decide +kernel, rfl, by decide +kernel, by decide +kernel⟩
/-- a number in bits -/
def spWritten : Sp := fun vs H Q _ => ∃ (n : Int) (m : Nat), vs = [.int n, .int (m : Int)] ∧ m ≤ 1000 ∧ ∀ (H' : Hp) (p : Addr), Same H H' → H p = none → H' p = some (.lst ((wr m n).map V.int)) → Q (.ref p) H'
theorem ok__law_written {f : Addr} {fd : FuncData} {k : Nat} (F : Fun K "_law_written" "_law_written" s__law_written f fd) (n_range : mg "range" = none) : FnOk P w K mg base CX0 (k + 1) f fd ["_law_figure", "_law_wide"] spWritten := by
  have sc := sc__law_written
  refine F.ok sc (fun vs H Q E h => ?_) (fun cdv A outer s H vs Q E hr h => ?_)
  · obtain ⟨n, m, rfl, _⟩ := h
    rfl
  · obtain ⟨n, m, rfl, hm, q⟩ := h
    refine ⟨_, (pss_cons (ps_set (i := 2) sc.nd rfl (.inl rfl) (pe_lst pa_nil))
 (pss_cons (ps_for PassesOwn.never rfl (pi_range1 (by rfl) n_range (pa_cons (pv 1) pa_nil)) (pg_name (i := 3) sc.nd rfl (.inl rfl))
  (pss_cons (ps_expr (pe_bmK K rfl PySem.F.plainAttrs_list PySem.F.slot_list_insert PySem.F.type_list_insert mt_insert (pv 2) (pa_cons pe_int (pa_cons (pe_op op_mod (pv 0) pe_int) pa_nil))))
 (pss_one (ps_set (i := 0) sc.nd rfl (.inl rfl) (pe_op op_fdiv (pv 0) pe_int)))))
 (pss_one (ps_ret (pv 2))))), ?_⟩
    refine ⟨Nat.zero_le _, fun o no => ?_⟩
    refine ⟨_, rfl, _, rfl, by omega, by omega, for_range (lo := 0) (n := ((m : Int)).toNat) (fun i σ H' => ∃ y3, σ = [some (.int (n / 2 ^ i)), some (.int (m : Int)), some (.ref o), y3] ∧ Same H H' ∧ H' o = some (.lst ((wr i n).map V.int))) ?_ ?_ ?_⟩
    · refine ⟨none, ?_, same_upd no, upd_same⟩
      rw [Int.pow_zero, Int.ediv_one]
      rfl
    · rintro i σ H' hi ⟨y3, rfl, sm, eo⟩
      rw [Int.toNat_natCast] at hi
      refine ⟨_, rfl, .inl ⟨rfl, _, SqL.of eo⟩, _, rfl, _, _, rfl, rfl, (by show (0 : Int) < 2; decide), o, _, 0, _, rfl, rfl, eo, ?_, by decide, by decide, ?_⟩
      · rw [List.length_map, wr_len]
        exact small1000 (by omega)
      · refine ⟨_, rfl, _, _, rfl, rfl, ⟨by decide, by decide⟩, some (.int (0 + (i : Int))), ?_, same_mut sm no, upd_same⟩
        show _ = _
        rw [← half n i]
        rfl
    · rintro σ H' ⟨y3, rfl, sm, eo⟩
      rw [Int.toNat_natCast] at eo
      exact ⟨_, rfl, q H' o sm no eo⟩
theorem sc__law_bits : FnScope ["_law_bag_here", "_law_size", "_law_thick", "_law_flip", "_law_k"] ["_law_bag_here", "_law_size"] (defScope s__law_bits) := ⟨rfl, rfl, rfl, by decide +kernel, rfl, by decide +kernel, by decide +kernel⟩
/-- some bits, so many -/
def spBits : Sp := fun vs H Q _ => ∃ (b : Addr × Addr) (m : Int), vs = [.ref b.1, .int m] ∧ Bag b H ∧ m ≤ 100000 ∧ -100000 ≤ m ∧ ∀ (H' : Hp) (p : Addr) (ns : List Int), Mv b.1 H H' → Bag b H' → H p = none → H' p = some (.lst (ns.map V.int)) → Bits ns → ns.length = m.toNat → Q (.ref p) H'
theorem ok__law_bits {f : Addr} {fd : FuncData} {k : Nat} (F : Fun K "_law_bits" "_law_bits" s__law_bits f fd) (n_range : mg "range" = none) (c__law_pick : Cal P w K mg base k "_law_pick" ["_law_bag_here", "_law_top"] spPick) :
    FnOk P w K mg base CX0 (k + 1) f fd ["_law_bag_here", "_law_size"] spBits := by
  have sc := sc__law_bits
  refine F.ok sc (fun vs H Q E h => ?_) (fun cdv A outer s H vs Q E hr h => ?_)
  · obtain ⟨b, m, rfl, _⟩ := h
    rfl
  · obtain ⟨b, m, rfl, hB, hm1, hm0, q⟩ := h
    refine ⟨_, (pss_cons (ps_set (i := 2) sc.nd rfl (.inr rfl) (pe_ix (ix_listK K rfl) (pe_lst (pa_cons pe_int (pa_cons pe_int (pa_cons pe_int (pa_cons pe_int pa_nil))))) (pe_callC c__law_pick hr (by rfl) (pa_cons (pv 0) (pa_cons pe_int pa_nil))) (fun _ _ => rfl)))
 (pss_cons (ps_set (i := 3) sc.nd rfl (.inr rfl) (pe_callC c__law_pick hr (by rfl) (pa_cons (pv 0) (pa_cons pe_int pa_nil))))
 (pss_cons (ps_if (pt_cmpR op_eq (pv 2) pe_int (nomark _))
  (pss_one (ps_ret (pe_lc (own := [("_law_k", 4)]) (g := gName 4) (by rfl) sc.nd (pi_range1 (by rfl) n_range (pa_cons (pv 1) pa_nil)) (blkOk_by (own := [("_law_k", 4)]) (N := ["_law_bag_here", "_law_size", "_law_thick", "_law_flip", "_law_k"]) (sc := defScope s__law_bits) (by decide +kernel)) (fun _ _ _ _ _ => pg_name (i := 4) sc.nd rfl (Or.inl rfl)) (fun _ _ _ _ _ => pts_nil) (fun _ _ _ _ _ => (pe_callC c__law_pick hr (by rfl) (pa_cons (pv 0) (pa_cons pe_int pa_nil)))))))
  pss_nil)
 (pss_one (ps_ret (pe_lc (own := [("_law_k", 4)]) (g := gName 4) (by rfl) sc.nd (pi_range1 (by rfl) n_range (pa_cons (pv 1) pa_nil)) (blkOk_by (own := [("_law_k", 4)]) (N := ["_law_bag_here", "_law_size", "_law_thick", "_law_flip", "_law_k"]) (sc := defScope s__law_bits) (by decide +kernel)) (fun _ _ _ _ _ => pg_name (i := 4) sc.nd rfl (Or.inl rfl)) (fun _ _ _ _ _ => pts_nil) (fun _ _ _ _ _ => (pe_ifExp (pt_cmpR op_eq (pe_callC c__law_pick hr (by rfl) (pa_cons (pv 0) (pa_cons (pv 2) pa_nil))) pe_int (nomark _)) (pv 3) (pe_op op_sub pe_int (pv 3)))))))))), ?_⟩
    refine ⟨(by show 4 ≤ sizeLine; decide), fun p0 n0 => ?_⟩
    have h0 : SH b _ _ := (SH.nil hB).new (o := .lst [.int 2, .int 2, .int 5, .int 9]) n0
    have m0 : Mv b.1 H (upd H p0 (.lst [.int 2, .int 2, .int 5, .int 9])) := Mv.of (same_upd n0)
    refine ⟨_, rfl, b, 4, rfl, h0.bag, by decide, by decide, fun H1 d mv1 hB1 d0 d1 => ?_⟩
    have h1 := h0.mv mv1 hB1
    obtain ⟨v, hv, hat⟩ : ∃ v : Int, (v = 2 ∨ v = 5 ∨ v = 9) ∧ atI [V.int 2, V.int 2, V.int 5, V.int 9] d = some (.int v) := by
      have : d = 0 ∨ d = 1 ∨ d = 2 ∨ d = 3 := by omega
      rcases this with rfl | rfl | rfl | rfl
      · exact ⟨2, .inl rfl, rfl⟩
      · exact ⟨2, .inl rfl, rfl⟩
      · exact ⟨5, .inr (.inl rfl), rfl⟩
      · exact ⟨9, .inr (.inr rfl), rfl⟩
    refine ⟨p0, _, d, _, rfl, rfl, SqL.of (h1.get (.head _)), hat, ?_⟩
    refine ⟨_, rfl, b, 2, rfl, hB1, by decide, by decide, fun H2 fp mv2 hB2 f0 f1 => ?_⟩
    have m2 := (m0.trans mv1).trans mv2
    have done : ∀ D : Addr, H2 D = none → ∀ H3 : Hp, (∃ ns : List Int, Mv b.1 H2 H3 ∧ Bag b H3 ∧ H3 D = some (.lst (ns.map V.int)) ∧ Bits ns ∧ ns.length = m.toNat) → Q (.ref D) H3 := by
      rintro D nD H3 ⟨ns, mv3, hB3, eD, hb, hl⟩
      exact q H3 D ns (m2.trans mv3) hB3 (m2.none (hB2.ne nD) nD) eD hb hl
    have turn : ∀ (D : Addr) (H3 H4 : Hp) (i : Nat) (y : Int), H2 D = none → i < m.toNat → (∃ ns : List Int, Mv b.1 H2 H3 ∧ Bag b H3 ∧ H3 D = some (.lst (ns.map V.int)) ∧ Bits ns ∧ ns.length = i) → Mv b.1 H3 H4 → Bag b H4 → (y = 0 ∨ y = 1) →
        ∃ acc, H4 D = some (.lst acc) ∧ acc.length < sizeLine ∧ ∃ ns : List Int, Mv b.1 H2 (upd H4 D (.lst (acc ++ [.int y]))) ∧ Bag b (upd H4 D (.lst (acc ++ [.int y]))) ∧ upd H4 D (.lst (acc ++ [.int y])) D = some (.lst (ns.map V.int)) ∧ Bits ns ∧ ns.length = i + 1 := by
      rintro D H3 H4 i y nD hi ⟨ns, mv3, hB3, eD, hb, hl⟩ mv4 hB4 hy
      have neD : D ≠ b.1 := hB2.ne nD
      refine ⟨_, mv4 _ _ neD eD, ?_, ns ++ [y], ?_, ?_, ?_, bits_app hb (bits_one hy), by simp [hl]⟩
      · rw [List.length_map, hl]
        exact Nat.lt_of_lt_of_le (show i < 100000 by omega) (by decide)
      · intro a o ne ha
        rw [upd_ne (ne_of_none ha nD)]
        exact mv4 a o ne (mv3 a o ne ha)
      · exact hB4.upd neD (hB2.ne2 nD)
      · rw [upd_same, List.map_append]
        rfl
    refine name_by ?_
    dsimp only
    refine ⟨_, rfl, rfl, _, rfl, ite2 (fun e => ?_) (fun e => ?_)⟩
    · refine ⟨_, rfl, m, rfl, by omega, by omega, fun D nD => lc_range (lo := 0) (n := m.toNat) (fun i H' => ∃ ns : List Int, Mv b.1 H2 H' ∧ Bag b H' ∧ H' D = some (.lst (ns.map V.int)) ∧ Bits ns ∧ ns.length = i) ?_ ?_ (done D nD)⟩
      · exact ⟨[], Mv.of (same_upd nD), hB2.same (same_upd nD), upd_same, bits_nil, rfl⟩
      · intro i H3 hi pv
        obtain ⟨ns, mv3, hB3, eD, hb, hl⟩ := id pv
        refine ⟨rfl, tYes_by (iteT ?_)⟩
        refine ⟨_, rfl, b, 2, rfl, hB3, by decide, by decide, fun H4 y mv4 hB4 y0 y1 => ?_⟩
        exact turn D H3 H4 i y nD hi pv mv4 hB4 (by omega)
    · refine ⟨_, rfl, m, rfl, by omega, by omega, fun D nD => lc_range (lo := 0) (n := m.toNat) (fun i H' => ∃ ns : List Int, Mv b.1 H2 H' ∧ Bag b H' ∧ H' D = some (.lst (ns.map V.int)) ∧ Bits ns ∧ ns.length = i) ?_ ?_ (done D nD)⟩
      · exact ⟨[], Mv.of (same_upd nD), hB2.same (same_upd nD), upd_same, bits_nil, rfl⟩
      · intro i H3 hi pv
        obtain ⟨ns, mv3, hB3, eD, hb, hl⟩ := id pv
        refine ⟨rfl, tYes_by (iteT ?_)⟩
        refine ⟨_, rfl, _, rfl, b, v, rfl, hB3, by omega, by omega, fun H4 y mv4 hB4 y0 y1 => ?_⟩
        refine ⟨rfl, _, rfl, ite2 (fun e => ?_) (fun e => ?_)⟩
        · exact ⟨_, rfl, turn D H3 H4 i fp nD hi pv mv4 hB4 (by omega)⟩
        · exact ⟨_, rfl, _, _, rfl, rfl, turn D H3 H4 i (1 - fp) nD hi pv mv4 hB4 (by omega)⟩
theorem sc__law_strange : FnScope ["_law_bag_here"] ["_law_bag_here"] (defScope s__law_strange) := ⟨rfl, rfl, rfl, by decide +kernel, rfl, by decide +kernel, by decide +kernel⟩
def spStrange : Sp := fun vs H Q _ => ∃ (b : Addr × Addr), vs = [.ref b.1] ∧ Bag b H ∧ ∀ (H' : Hp) (z : Int), Mv b.1 H H' → Bag b H' → ¬ isB z → Q (.int z) H'
theorem ok__law_strange {f : Addr} {fd : FuncData} {k : Nat} (F : Fun K "_law_strange" "_law_strange" s__law_strange f fd) (c__law_of : Cal P w K mg base k "_law_of" ["_law_bag_here", "_law_some"] (spOf K)) : FnOk P w K mg base CX0 (k + 1) f fd ["_law_bag_here"] spStrange := by
  have sc := sc__law_strange
  refine F.ok sc (fun vs H Q E h => ?_) (fun cdv A outer s H vs Q E hr h => ?_)
  · obtain ⟨b, rfl, _⟩ := h
    rfl
  · obtain ⟨b, rfl, hB, q⟩ := h
    refine ⟨_, (pss_one (ps_ret (pe_callC c__law_of hr (by rfl) (pa_cons (pv 0) (pa_cons (pe_lst (pa_cons pe_int (pa_cons (pe_un un_neg pe_int) (pa_cons (pe_op op_pow pe_int pe_int) pa_nil)))) pa_nil))))), ?_⟩
    refine ⟨_, rfl, 1, rfl, 10, 15, rfl, rfl, ⟨by decide, by decide, by decide⟩, (by show 3 ≤ sizeLine; decide), fun p np => ?_⟩
    have h1 := (SH.nil hB).new (o := .lst [.int 2, .int (-1), .int (10 ^ Int.toNat 15)]) np
    refine ⟨b, p, _, rfl, h1.bag, h1.ne (.head _), upd_same, (by show 0 < 3; decide), (by show 3 < 1000; decide), fun H' v mv hB' hv => ?_⟩
    have mv' : Mv b.1 H H' := (Mv.of (same_upd np)).trans mv
    rcases List.mem_cons.mp hv with rfl | hv
    · exact q H' 2 mv' hB' (by unfold isB; decide)
    rcases List.mem_cons.mp hv with rfl | hv
    · exact q H' (-1) mv' hB' (by unfold isB; decide)
    rw [List.mem_singleton.mp hv]
    exact q H' (10 ^ Int.toNat 15) mv' hB' (by unfold isB; decide)
theorem first_bad {G : Int → Prop} {a r : List Int} {z : Int} (ha : ∀ y ∈ a, G y) (nz : ¬ G z) : ∀ (j : Nat) (y : Int), (a ++ z :: r)[j]? = some y → ¬ G y → (∀ x ∈ (a ++ z :: r).take j, G x) → j = a.length := by
  intro j y hj ny hbj
  rcases Nat.lt_trichotomy j a.length with h | h | h
  · exfalso
    rw [List.getElem?_append_left h] at hj
    exact ny (ha y (List.mem_of_getElem? hj))
  · exact h
  · exfalso
    refine nz (hbj z ?_)
    rw [List.take_append, List.take_of_length_le (by omega)]
    refine List.mem_append_right _ ?_
    rw [show j - a.length = (j - a.length - 1) + 1 by omega]
    exact .head _
theorem cut_tail {d : Int} (x : V) (h0 : 0 ≤ d) (h1 : d < 2) : ∃ t : Nat, cutV [x] none (some d) = [x].take t := ⟨d.toNat, by
  have := cut_to_n [x] d.toNat
  rwa [Int.toNat_of_nonneg h0] at this⟩
theorem sc__law_spoilt : FnScope ["_law_bag_here", "_law_signs", "_law_at_here", "_law_further"] ["_law_bag_here", "_law_signs", "_law_at_here"] (defScope s__law_spoilt) := ⟨rfl, rfl, rfl, by decide +kernel, rfl, by decide +kernel, by decide +kernel⟩
/-- a strange thing put in at t, perhaps more behind -/
def spSpoilt (K : PySem.W.Frag) : Sp := fun vs H Q _ => ∃ (b : Addr × Addr) (p : Addr) (sg : List Int) (t : Nat), vs = [.ref b.1, .ref p, .int (t : Int)] ∧ Bag b H ∧ p ≠ b.1 ∧ p ≠ b.2 ∧ H p = some (.lst (sg.map V.int)) ∧ Bits sg ∧ sg.length ≤ 1000 ∧ t ≤ sg.length ∧
  ∀ (H' : Hp) (d : Addr) (B : List Int), Mv b.1 H H' → Bag b H' → H d = none → H' d = some (.lst (B.map V.int)) → B.length ≤ 2000 → ¬ Bits B → (∀ (j : Nat) (y : Int), B[j]? = some y → ¬ isB y → Bits (B.take j) → j = t) → Q (.ref d) H'
theorem ok__law_spoilt {f : Addr} {fd : FuncData} {k : Nat} (F : Fun K "_law_spoilt" "_law_spoilt" s__law_spoilt f fd) (c__law_pick : Cal P w K mg base k "_law_pick" ["_law_bag_here", "_law_top"] spPick) (c__law_strange : Cal P w K mg base k "_law_strange" ["_law_bag_here"] spStrange) : FnOk P w K mg base CX0 (k + 1) f fd ["_law_bag_here", "_law_signs", "_law_at_here"] (spSpoilt K) := by
  have sc := sc__law_spoilt
  refine F.ok sc (fun vs H Q E h => ?_) (fun cdv A outer s H vs Q E hr h => ?_)
  · obtain ⟨b, p, sg, t, rfl, _⟩ := h
    rfl
  · obtain ⟨b, p, sg, tn, rfl, hB, pb1, pb2, hp, hsb, hsl, htn, q⟩ := h
    refine ⟨_, (pss_cons (ps_set (i := 3) sc.nd rfl (.inl rfl) (pe_slice (sl_listK K rfl) (pe_lst (pa_cons pe_int pa_nil)) po_none (po_some (pe_callC c__law_pick hr (by rfl) (pa_cons (pv 0) (pa_cons pe_int pa_nil))))))
 (pss_one (ps_ret (pe_op op_cat (pe_op op_cat (pe_op op_cat (pe_slice (sl_listK K rfl) (pv 1) po_none (po_some (pv 2))) (pe_lst (pa_cons (pe_callC c__law_strange hr (by rfl) (pa_cons (pv 0) pa_nil)) pa_nil))) (pe_slice (sl_listK K rfl) (pv 1) (po_some (pv 2)) po_none)) (pv 3))))), ?_⟩
    have h0 := (SH.nil hB).add pb1 pb2 hp
    refine ⟨(by show 1 ≤ sizeLine; decide), fun p1 n1 => ?_⟩
    have h1 := h0.new (o := .lst [.int 3]) n1
    have m1 : Mv b.1 H _ := Mv.of (same_upd (o := .lst [.int 3]) n1)
    refine ⟨_, rfl, b, 2, rfl, h1.bag, by decide, by decide, fun H2 d2 mv2 hB2 d0 d1 => ?_⟩
    have h2 := h1.mv mv2 hB2
    have m2 := m1.trans mv2
    obtain ⟨dn, edn⟩ := cut_tail (.int 3) d0 d1
    refine ⟨_, rfl, p1, _, rfl, SqL.of (h2.get (.head _)), fun p3 n3 => ?_⟩
    rw [edn, show ([V.int 3].take dn) = ([3].take dn).map V.int from (List.map_take (f := V.int) (l := [3]) (i := dn)).symm]
    have h3 := h2.new (o := .lst (([3].take dn).map V.int)) n3
    have m3 := m2.trans (Mv.of (b := b.1) (same_upd (o := .lst (([3].take dn).map V.int)) n3))
    have hdn : ([(3 : Int)].take dn).length ≤ 1 := by rw [List.length_take]; exact Nat.min_le_right _ _
    refine ⟨_, rfl, _, rfl, _, rfl, p, _, rfl, SqL.of (h3.get (.tail _ (.tail _ (.head _)))), fun p4 n4 => ?_⟩
    rw [cut_to_n, ← List.map_take]
    have h4 := h3.new (o := .lst ((sg.take tn).map V.int)) n4
    have m4 := m3.trans (Mv.of (b := b.1) (same_upd (o := .lst ((sg.take tn).map V.int)) n4))
    refine ⟨_, rfl, b, rfl, h4.bag, fun H5 z mv5 hB5 nz => ?_⟩
    have h5 := h4.mv mv5 hB5
    have m5 := m4.trans mv5
    refine ⟨(by show 1 ≤ sizeLine; decide), fun p6 n6 => ?_⟩
    have h6 := h5.new (o := .lst [.int z]) n6
    have m6 := m5.trans (Mv.of (b := b.1) (same_upd (o := .lst [.int z]) n6))
    refine ⟨p4, p6, _, _, rfl, rfl, h6.get (.tail _ (.head _)), upd_same, ?_, fun p7 n7 => ?_⟩
    · rw [List.length_map, List.length_take]
      exact sz4 (by show min tn sg.length + 1 ≤ 100000; omega)
    have h7 := h6.new (o := .lst ((sg.take tn).map V.int ++ [.int z])) n7
    have m7 := m6.trans (Mv.of (b := b.1) (same_upd (o := .lst ((sg.take tn).map V.int ++ [.int z])) n7))
    refine ⟨_, rfl, _, rfl, _, rfl, p, _, rfl, SqL.of (h7.get (.tail _ (.tail _ (.tail _ (.tail _ (.tail _ (.head _))))))), fun p8 n8 => ?_⟩
    rw [cut_from_n, ← List.map_drop]
    have h8 := h7.new (o := .lst ((sg.drop tn).map V.int)) n8
    have m8 := m7.trans (Mv.of (b := b.1) (same_upd (o := .lst ((sg.drop tn).map V.int)) n8))
    refine ⟨p7, p8, _, _, rfl, rfl, h8.get (.tail _ (.head _)), upd_same, ?_, fun p9 n9 => ?_⟩
    · rw [List.length_append, List.length_map, List.length_map, List.length_take, List.length_drop]
      exact sz4 (by show min tn sg.length + 1 + (sg.length - tn) ≤ 100000; omega)
    have eB : (sg.take tn).map V.int ++ [V.int z] ++ (sg.drop tn).map V.int = (sg.take tn ++ z :: sg.drop tn).map V.int := by
      rw [List.map_append, List.map_cons, List.append_assoc]
      rfl
    rw [eB]
    have h9 := h8.new (o := .lst ((sg.take tn ++ z :: sg.drop tn).map V.int)) n9
    have m9 := m8.trans (Mv.of (b := b.1) (same_upd (o := .lst ((sg.take tn ++ z :: sg.drop tn).map V.int)) n9))
    refine ⟨_, rfl, p9, p3, _, _, rfl, rfl, upd_same, h9.get (.tail _ (.tail _ (.tail _ (.tail _ (.tail _ (.head _)))))), ?_, fun p10 n10 => ?_⟩
    · rw [List.length_map, List.length_map, List.length_append, List.length_cons, List.length_take, List.length_drop]
      exact sz4 (by omega)
    rw [← List.map_append]
    have hlt : (sg.take tn).length = tn := by rw [List.length_take]; omega
    have eB2 : sg.take tn ++ z :: sg.drop tn ++ [3].take dn = sg.take tn ++ z :: (sg.drop tn ++ [3].take dn) := by rw [List.append_assoc]; rfl
    refine q _ p10 _ (m9.trans (Mv.of (b := b.1) (same_upd n10))) (h9.bag.same (same_upd n10)) (m9.none (h9.bag.ne n10) n10) upd_same ?_ ?_ ?_
    · rw [List.length_append, List.length_append, List.length_cons, List.length_take (l := sg), List.length_drop]
      omega
    · exact fun h => nz (h z (List.mem_append_left _ (List.mem_append_right _ (.head _))))
    · rw [eB2]
      intro j y hj ny hbj
      exact (first_bad (G := isB) (fun y hy => hsb y (List.mem_of_mem_take hy)) nz j y hj ny hbj).trans hlt
abbrev qLam : Str := "law.<locals>.<lambda>"
def spLaw (K : PySem.W.Frag) (tP : Addr) : Sp := fun vs H Q _ => ∃ (a : Addr) (ns : List Int), vs = [.ref a] ∧ SqL K H a (ns.map V.int) ∧ H tP = some (.tbl #[]) ∧ ∀ H', Q (.bl true) H'
theorem bits_rep {d : Int} (h : isB d) (n : Nat) : Bits (List.replicate n d) := fun z hz => by
  rw [List.eq_of_mem_replicate hz]
  exact h
theorem dp_si {H : Hp} {a : Addr} {x : Str} {i : Int} (h : H a = some (.lst [.str x, .int i])) : Dp K H (.ref a) (.list [.str x, .int i]) := .lst (SqL.of h) (.cons (.str x) (.cons (.int i) .nil))
theorem shaped_si {x : Str} (hx : PyData.canLay0 (.str x) = true) (i : Int) : SeqAt.shaped (.list [.str x, .int i]) = true := by
  unfold SeqAt.shaped
  rw [Bool.and_eq_true]
  refine ⟨?_, decide_eq_true (by show max 0 (max 0 0) + 1 ≤ 64; decide)⟩
  show (PyData.canLay0 (.str x) && (true && true)) = true
  rw [hx]
  rfl
theorem lay_BadFrame : PyData.canLay0 (.str "BadFrame") = true := by decide +kernel
theorem lay_BadBit : PyData.canLay0 (.str "BadBit") = true := by decide +kernel
theorem dn_ints (ns : List Int) (h : ns.length ≤ 100000) (n : Nat) : Dn (n + 2) (dI ns) := .inr (.inr (.inr (.inr ⟨_, .inl rfl, by rw [List.length_map]; exact h, fun e he => by
  obtain ⟨z, _, rfl⟩ := List.mem_map.mp he
  exact .inr (.inl ⟨z, rfl⟩)⟩)))
theorem sc_law : FnScope ["_law_script", "_law_bag_here", "_law_turn", "_law_step_off", "_law_far", "_law_figure", "_law_which", "_law_thing", "_law_memory", "_law_good", "_law_at_here", "_law_bad"] ["_law_script"] (defScope s_law) := ⟨rfl, rfl, rfl, by decide +kernel, rfl, by decide +kernel, by decide +kernel⟩
theorem dp_ss {H : Hp} {a : Addr} {x y : Str} (h : H a = some (.tup [.str x, .str y])) : Dp K H (.ref a) (.tuple [.str x, .str y]) := .tup (.inl (.inl h)) (.cons (.str x) (.cons (.str y) .nil))
theorem shaped_ss {x y : Str} (hx : PyData.canLay0 (.str x) = true) (hy : PyData.canLay0 (.str y) = true) : SeqAt.shaped (.tuple [.str x, .str y]) = true := by
  unfold SeqAt.shaped
  rw [Bool.and_eq_true]
  refine ⟨?_, decide_eq_true (by show max 0 (max 0 0) + 1 ≤ 64; decide)⟩
  show (PyData.canLay0 (.str x) && (PyData.canLay0 (.str y) && true)) = true
  rw [hx, hy]
  rfl
theorem lay_BadByte : PyData.canLay0 (.str "BadByte") = true := by decide +kernel
theorem lay_BadCount : PyData.canLay0 (.str "BadCount") = true := by decide +kernel
theorem lay_refused : PyData.canLay0 (.str "refused") = true := by decide +kernel
theorem ne_refl {x : V} : (!decide (x = x)) = false := by rw [decide_eq_true rfl]; rfl
theorem ok_law {f c tP gA gD cN cM cB cY cF cC cL C1 C2 : Addr} {k n : Nat} {oc : Value} {od an : Option Addr} {osl : Array (Option Value)} {kV doc pm ct : Value} {ocD : Value} {odD anD : Option Addr} {oslD : Array (Option Value)} {kVD docD pmD cdD ctD : Value} {ocA : Value} {odA anA : Option Addr} {oslA : Array (Option Value)} {kVA docA pmA cdA ctA : Value}
    (lk : K.lookup f = some ⟨oc, od, .func (PySem.W.fnOf "law" "law" (defArgs s_law) (defBody s_law) (defScope s_law) .none kV doc pm an (.ref c) ct), osl⟩) (hcd : PySem.W.codeIn K (.ref c) "law" = true)
    (lA : K.lookup gA = some ⟨ocA, odA, .func (PySem.W.fnOf "_law_at" "_law_at" (defArgs s__law_at) (defBody s__law_at) (defScope s__law_at) .none kVA docA pmA anA cdA ctA), oslA⟩) (hcA : PySem.W.codeIn K cdA "_law_at" = true) (kA : PySem.W.keepIn K (.ref gA) = true) (mA : mg "_law_at" = some (.ref gA))
    (bA : Binds K (PySem.W.fnOf "_law_at" "_law_at" (defArgs s__law_at) (defBody s__law_at) (defScope s__law_at) .none kVA docA pmA anA cdA ctA) ["_law_act"] [])
    (aB : AtC K mg "BadBit" cB) (aY : AtC K mg "BadByte" cY) (aF : AtC K mg "BadFrame" cF) (aC : AtC K mg "BadCode" cC) (gL : mg "LineError" = some (.ref cL))
    (bb_ : PySem.W.exmOne K (.ref cB) (.ref cB) = some true) (yb : PySem.W.exmOne K (.ref cY) (.ref cB) = some false) (yy : PySem.W.exmOne K (.ref cY) (.ref cY) = some true)
    (fb : PySem.W.exmOne K (.ref cF) (.ref cB) = some false) (fy : PySem.W.exmOne K (.ref cF) (.ref cY) = some false) (ff : PySem.W.exmOne K (.ref cF) (.ref cF) = some true)
    (cb : PySem.W.exmOne K (.ref cC) (.ref cB) = some false) (cy : PySem.W.exmOne K (.ref cC) (.ref cY) = some false) (cf : PySem.W.exmOne K (.ref cC) (.ref cF) = some false) (cc : PySem.W.exmOne K (.ref cC) (.ref cC) = some true)
    (TB : LamX.TabB base mg c tP)
    (lD : K.lookup gD = some ⟨ocD, odD, .func (PySem.W.fnOf "_law_tried" "_law_tried" (defArgs s__law_tried) (defBody s__law_tried) (defScope s__law_tried) .none kVD docD pmD anD cdD ctD), oslD⟩) (hcD : PySem.W.codeIn K cdD "_law_tried" = true) (kD : PySem.W.keepIn K (.ref gD) = true) (mD : mg "_law_tried" = some (.ref gD))
    (bD : Binds K (PySem.W.fnOf "_law_tried" "_law_tried" (defArgs s__law_tried) (defBody s__law_tried) (defScope s__law_tried) .none kVD docD pmD anD cdD ctD) ["_law_act"] [])
    (xN : XfC K cN) (noN : PySem.W.findIn K (.ref cN) "word" = some none) (gM : mg "Missing" = some (.ref cM)) (nl : PySem.W.exmOne K (.ref cN) (.ref cL) = some true)
    (n_len : mg "len" = none) (n_range : mg "range" = none)
    (cnw_Scrambler : CalNW P w K mg base (k + 2) "Scrambler" C1 ["self", "seed"] ["seed"] (fun vs zs => vs ++ zs) (spSi C1 cN)) (cnw_Descrambler : CalNW P w K mg base (k + 2) "Descrambler" C2 ["self", "seed"] ["seed"] (fun vs zs => vs ++ zs) (spSi C2 cN))
    (clnw_Scrambler : CalNW P w K mg base k "Scrambler" C1 ["self", "seed"] ["seed"] (fun vs zs => vs ++ zs) (spSi C1 cN)) (clnw_Descrambler : CalNW P w K mg base k "Descrambler" C2 ["self", "seed"] ["seed"] (fun vs zs => vs ++ zs) (spSi C2 cN))
    (c_Scrambler_push : CalM (L2.CX P w) P w K mg base (k + 3) C1 "push" ["self", "bits"] (spPush true C1 cB)) (c_Descrambler_push : CalM (L2.CX P w) P w K mg base (k + 3) C2 "push" ["self", "bits"] (spPush false C2 cB))
    (cl_Scrambler_push : CalM (L2.CX P w) P w K mg base (k + 1) C1 "push" ["self", "bits"] (spPush true C1 cB)) (cl_Descrambler_push : CalM (L2.CX P w) P w K mg base (k + 1) C2 "push" ["self", "bits"] (spPush false C2 cB))
    (c_Scrambler_memory : CalM CX0 P w K mg base (k + 3) C1 "memory" ["self"] (spMem C1)) (c_Descrambler_memory : CalM CX0 P w K mg base (k + 3) C2 "memory" ["self"] (spMem C2))
    (c__law_bag : Cal P w K mg base (k + 3) "_law_bag" ["_law_script"] (spBag K)) (c__law_bits : Cal P w K mg base (k + 3) "_law_bits" ["_law_bag_here", "_law_size"] spBits) (c__law_pick : Cal P w K mg base (k + 3) "_law_pick" ["_law_bag_here", "_law_top"] spPickW)
    (c__law_of : Cal P w K mg base (k + 3) "_law_of" ["_law_bag_here", "_law_some"] (spOf K)) (c__law_written : Cal P w K mg base (k + 3) "_law_written" ["_law_figure", "_law_wide"] spWritten) (c__law_worth : Cal P w K mg base (k + 3) "_law_worth" ["_law_signs"] (spWorth K))
    (c__law_same : Cal P w K mg base (k + 3) "_law_same" ["_law_found", "_law_due"] (spSame K (n + 2))) (c__law_spoilt : Cal P w K mg base (k + 3) "_law_spoilt" ["_law_bag_here", "_law_signs", "_law_at_here"] (spSpoilt K))
    (c__law_scrambled : Cal P w K mg base (k + 3) "_law_scrambled" ["_law_signs", "_law_memory"] (spLsc true)) (c__law_descrambled : Cal P w K mg base (k + 3) "_law_descrambled" ["_law_signs", "_law_memory"] (spLsc false)) :
    FnOk P w K mg base CX0 (k + 4) f (PySem.W.fnOf "law" "law" (defArgs s_law) (defBody s_law) (defScope s_law) .none kV doc pm an (.ref c) ct) ["_law_script"] (spLaw K tP) := by
  have sc := sc_law
  refine okL lk hcd sc (fun vs H Q E h => ?_) (fun A outer s H vs Q E hr h => ?_)
  · obtain ⟨a, ns, rfl, _⟩ := h
    rfl
  · obtain ⟨a, ns, rfl, hS, hT0, q⟩ := h
    have LA__law_at : LamTo (cxOf CX0 P w K mg base ["_law_script", "_law_bag_here", "_law_turn", "_law_step_off", "_law_far", "_law_figure", "_law_which", "_law_thing", "_law_memory", "_law_good", "_law_at_here", "_law_bad"] "law" (defScope s_law) f (.ref c) A outer s H E).nox [(tP, qLam)] "_law_at" (TAt [(cB, "BadBit"), (cY, "BadByte"), (cF, "BadFrame"), (cC, "BadCode")]) := fun {params body scope t p lpos pos k} hr L hd hbn hbody =>
      LamX.pe_lamcall (by rfl) mA kA lA hcA bA sc__law_at rfl (.inl rfl) (at_gives aB aY aF aC gL bb_ yb yy fb fy ff cb cy cf cc) TB rfl (List.mem_singleton.mpr rfl) (fun p hp _ => by rw [List.mem_singleton.mp hp]; rfl) hr L hd hbn hbody
    have LA__law_tried : LamTo (cxOf CX0 P w K mg base ["_law_script", "_law_bag_here", "_law_turn", "_law_step_off", "_law_far", "_law_figure", "_law_which", "_law_thing", "_law_memory", "_law_good", "_law_at_here", "_law_bad"] "law" (defScope s_law) f (.ref c) A outer s H E).nox [(tP, qLam)] "_law_tried" (TTried cN "BadCount") := fun {params body scope t p lpos pos k} hr L hd hbn hbody =>
      LamX.pe_lamcall (by rfl) mD kD lD hcD bD sc__law_tried rfl (.inl rfl) (tried_gives xN noN gL gM nl) TB rfl (List.mem_singleton.mpr rfl) (fun p hp _ => by rw [List.mem_singleton.mp hp]; rfl) hr L hd hbn hbody
    refine ⟨_, (pss_cons (ps_set (i := 1) sc.nd rfl (.inl rfl) (pe_callC c__law_bag hr (by rfl) (pa_cons (pv 0) pa_nil)))
 (pss_cons (ps_for PassesOwn.never rfl (pi_range1 (by rfl) n_range (pa_cons pe_int pa_nil)) (pg_name (i := 2) sc.nd rfl (.inl rfl))
  (pss_cons (ps_set (i := 3) sc.nd rfl (.inl rfl) (pe_callC c__law_pick hr (by rfl) (pa_cons (pv 1) (pa_cons (pe_op op_pow pe_int pe_int) pa_nil))))
 (pss_cons (ps_set (i := 4) sc.nd rfl (.inr rfl) (pe_callC c__law_of hr (by rfl) (pa_cons (pv 1) (pa_cons (pe_lst (pa_cons pe_int (pa_cons (pe_un un_neg pe_int) (pa_cons (pe_op op_add pe_int (pv 3)) (pa_cons (pe_op op_sub (pe_un un_neg pe_int) (pv 3)) pa_nil))))) pa_nil))))
 (pss_cons (ps_if (pt_cmpR (op_neDK K rfl hr.units) (LA__law_tried hr (LamX.lamS_by (sc := defScope s_law) (by decide +kernel)) rfl (fun _ _ _ _ _ => rfl) (fun A outer s H E f c2 hr => (pe_makeW clnw_Scrambler hr (passes_call (takes_of rfl rfl rfl rfl) (fun _ _ _ _ h => h)) (by rfl) (pk_cons (pv 4) pk_nil)))) (pe_tup (pa_cons pe_str (pa_cons pe_str pa_nil))) (nomark _))
  (pss_one (ps_ret pe_bl))
  pss_nil)
 (pss_cons (ps_if (pt_cmpR (op_neDK K rfl hr.units) (LA__law_tried hr (LamX.lamS_by (sc := defScope s_law) (by decide +kernel)) rfl (fun _ _ _ _ _ => rfl) (fun A outer s H E f c2 hr => (pe_makeW clnw_Descrambler hr (passes_call (takes_of rfl rfl rfl rfl) (fun _ _ _ _ h => h)) (by rfl) (pk_cons (pv 4) pk_nil)))) (pe_tup (pa_cons pe_str (pa_cons pe_str pa_nil))) (nomark _))
  (pss_one (ps_ret pe_bl))
  pss_nil)
 (pss_cons (ps_set (i := 5) sc.nd rfl (.inl rfl) (pe_callC c__law_pick hr (by rfl) (pa_cons (pv 1) (pa_cons pe_int pa_nil))))
 (pss_cons (ps_set (i := 6) sc.nd rfl (.inl rfl) (pe_callC c__law_pick hr (by rfl) (pa_cons (pv 1) (pa_cons pe_int pa_nil))))
 (pss_cons (ps_set (i := 7) sc.nd rfl (.inr rfl) (pe_ix (ix_listK K rfl) (pe_lst (pa_cons (pe_makeWF cnw_Scrambler hr (by rfl) (pk_cons (pv 5) pk_nil)) (pa_cons (pe_makeWF cnw_Descrambler hr (by rfl) (pk_cons (pv 5) pk_nil)) pa_nil))) (pv 6) (fun _ _ => rfl)))
 (pss_cons (ps_set (i := 8) sc.nd rfl (.inl rfl) (pe_callC c__law_written hr (by rfl) (pa_cons (pv 5) (pa_cons pe_int pa_nil))))
 (pss_cons (ps_set (i := 9) sc.nd rfl (.inl rfl) (pe_callC c__law_bits hr (by rfl) (pa_cons (pv 1) (pa_cons (pe_callC c__law_pick hr (by rfl) (pa_cons (pv 1) (pa_cons pe_int pa_nil))) pa_nil))))
 (pss_cons (ps_if (pt_not (pt_val (pe_callC c__law_same hr (by rfl) (pa_cons (pe_or2 (pe_methF (pv 7) c_Scrambler_push hr (pa_cons (pv 9) pa_nil)) (pe_methF (pv 7) c_Descrambler_push hr (pa_cons (pv 9) pa_nil))) (pa_cons (pe_call2 c__law_scrambled c__law_descrambled mg rfl (pe_ix (ix_listK K rfl) (pe_lst (pa_cons (pe_gl c__law_scrambled mg rfl (by rfl)) (pa_cons (pe_gl c__law_descrambled mg rfl (by rfl)) pa_nil))) (pv 6) (fun _ _ => rfl)) hr (pa_cons (pv 9) (pa_cons (pv 8) pa_nil))) pa_nil)))))
  (pss_one (ps_ret pe_bl))
  pss_nil)
 (pss_cons (ps_set (i := 10) sc.nd rfl (.inl rfl) (pe_callC c__law_pick hr (by rfl) (pa_cons (pv 1) (pa_cons (pe_op op_add (pe_callB (call_lenK K rfl) (by rfl) n_len PySem.boot_len (pa_cons (pv 9) pa_nil)) pe_int) pa_nil))))
 (pss_cons (ps_set (i := 11) sc.nd rfl (.inr rfl) (pe_callC c__law_spoilt hr (by rfl) (pa_cons (pv 1) (pa_cons (pv 9) (pa_cons (pv 10) pa_nil)))))
 (pss_cons (ps_if (PW.pt (pw_or (pt_cmpR (op_neDK K rfl hr.units) (LA__law_at hr (LamX.lamS_by (sc := defScope s_law) (by decide +kernel)) rfl (fun _ _ _ _ _ => rfl) (fun A outer s H E f c2 hr => (pe_or2 (pe_methP (pv 7) cl_Scrambler_push hr (passes_call (takes_of rfl rfl rfl rfl) (fun _ _ _ _ h => h)) (pa_cons (pv 11) pa_nil)) (pe_methP (pv 7) cl_Descrambler_push hr (passes_call (takes_of rfl rfl rfl rfl) (fun _ _ _ _ h => h)) (pa_cons (pv 11) pa_nil))))) (pe_lst (pa_cons pe_str (pa_cons (pv 10) pa_nil))) (nomark _)) (pw_or1 (pt_cmpR op_ne (pe_or2 (pe_methC0 (pv 7) c_Scrambler_memory hr) (pe_methC0 (pv 7) c_Descrambler_memory hr)) (pe_callC c__law_worth hr (by rfl) (pa_cons (pv 8) pa_nil)) (nomark _)))))
  (pss_one (ps_ret pe_bl))
  pss_nil)
 (pss_one (ps_if (pt_not (pt_val (pe_callC c__law_same hr (by rfl) (pa_cons (pe_or2 (pe_methF (pv 7) c_Scrambler_push hr (pa_cons (pv 9) pa_nil)) (pe_methF (pv 7) c_Descrambler_push hr (pa_cons (pv 9) pa_nil))) (pa_cons (pe_call2 c__law_scrambled c__law_descrambled mg rfl (pe_ix (ix_listK K rfl) (pe_lst (pa_cons (pe_gl c__law_scrambled mg rfl (by rfl)) (pa_cons (pe_gl c__law_descrambled mg rfl (by rfl)) pa_nil))) (pv 6) (fun _ _ => rfl)) hr (pa_cons (pv 9) (pa_cons (pv 8) pa_nil))) pa_nil)))))
  (pss_one (ps_ret pe_bl))
  pss_nil))))))))))))))))
 (pss_one (ps_ret pe_bl)))), ?_⟩
    have hT : LamX.Tabs [(tP, qLam)] H := fun p hp => by rw [List.mem_singleton.mp hp]; exact LamX.TabS.nil hT0
    refine ⟨_, rfl, a, ns, rfl, hS, fun H1 b s1 nb hB => ?_⟩
    have h1 : Hs [(tP, qLam)] [tB b] H1 := (Hs.nil (hT.ext s1)).cons hB (fun j y hj => by cases hj)
    refine ⟨4, rfl, by decide, by decide, for_range (lo := 0) (n := 4) (fun i σ H' => ∃ y2 y3 y4 y5 y6 y7 y8 y9 y10 y11, σ = [some (.ref a), some (.ref b.1), y2, y3, y4, y5, y6, y7, y8, y9, y10, y11] ∧ Hs [(tP, qLam)] [tB b] H') ⟨none, none, none, none, none, none, none, none, none, none, rfl, h1⟩ ?_ ?_⟩
    · clear h1 hB
      rintro i σ H1 hi ⟨y2, y3, y4, y5, y6, y7, y8, y9, y10, y11, rfl, h1⟩
      refine ⟨_, rfl, 10, 12, rfl, rfl, ⟨by decide, by decide, by decide⟩, b, _, rfl, h1.bag, by decide, by decide, fun H2 so mv2 hB2 so0 so1 => ?_⟩
      have h2 := h1.mv mv2 hB2
      refine ⟨_, rfl, 1, rfl, _, rfl, _, _, rfl, rfl, 1, rfl, _, rfl, _, _, rfl, rfl, (by show 4 ≤ sizeLine; decide), fun p3 n3 => ?_⟩
      have h3 := h2.newU (o := .lst [.int 128, .int (-1), .int (128 + so), .int (-1 - so)]) n3
      refine ⟨b, p3, _, rfl, h3.bag, h3.ne 1 0 rfl rfl (.head _) (.head _), upd_same, (by show 0 < 4; decide), (by show 4 < 1000; decide), fun H4 v4 mv4 hB4 hv => ?_⟩
      obtain ⟨fr, rfl, hfr⟩ : ∃ z : Int, v4 = .int z ∧ (z < 0 ∨ 128 ≤ z) := by
        simp only [List.mem_cons, List.not_mem_nil, or_false] at hv
        rcases hv with rfl | rfl | rfl | rfl
        · exact ⟨_, rfl, .inr (by decide)⟩
        · exact ⟨_, rfl, .inl (by decide)⟩
        · exact ⟨_, rfl, .inr (by omega)⟩
        · exact ⟨_, rfl, .inl (by omega)⟩
      have h4 : Hs [(tP, qLam)] [tB b] H4 := (h3.mv mv4 hB4).sel [0] (by decide)
      clear h1 h2 h3
      refine name_by ?_
      dsimp only
      -- refused
      refine ⟨h4.tab, fun H5 ex5 tb5 => ?_⟩
      have h5 := h4.extN ex5 tb5
      refine ⟨_, rfl, rfl, rfl, fun x1 dx1 nx1 ndx1 nex1 => ⟨x1, dx1, fr, rfl, upd_same, (fun h0 h1 => by omega), (fun _ H6 dd s6 nd ed => ?_)⟩⟩
      have h6 := h5.same (made_sameS nx1 ndx1 s6)
      refine ⟨rfl, dd, _, rfl, ed, rfl, fun p7 n7 => ?_⟩
      have h7 := h6.same (same_upd (o := .tup [.str "refused", .str "BadCount"]) n7)
      refine ⟨(by show 2 ≤ sizeLine; decide), fun p8 n8 => ?_⟩
      have h8 := h7.same (same_upd (o := .tup [.str "refused", .str "BadCount"]) n8)
      refine ⟨_, _, dp_ss (same_upd n8 _ _ upd_same), dp_ss upd_same, shaped_ss lay_refused lay_BadCount, shaped_ss lay_refused lay_BadCount, _, rfl, ifF (by rw [SeqAt.eqv_refl _ (SeqAt.canLay_of_shaped (shaped_ss lay_refused lay_BadCount))]; rfl) ?_⟩
      generalize upd (upd H6 p7 (.tup [.str "refused", .str "BadCount"])) p8 (.tup [.str "refused", .str "BadCount"]) = H8 at h8 ⊢
      clear h4 h5 h6 h7
      refine ⟨h8.tab, fun H9 ex9 tb9 => ?_⟩
      have h9 := h8.extN ex9 tb9
      refine ⟨_, rfl, rfl, rfl, fun x1 dx1 nx1 ndx1 nex1 => ⟨x1, dx1, fr, rfl, upd_same, (fun h0 h1 => by omega), (fun _ H10 dd s10 nd ed => ?_)⟩⟩
      have h10 := h9.same (made_sameS nx1 ndx1 s10)
      refine ⟨rfl, dd, _, rfl, ed, rfl, fun p11 n11 => ?_⟩
      have h11 := h10.same (same_upd (o := .tup [.str "refused", .str "BadCount"]) n11)
      refine ⟨(by show 2 ≤ sizeLine; decide), fun p12 n12 => ?_⟩
      have h12 := h11.same (same_upd (o := .tup [.str "refused", .str "BadCount"]) n12)
      refine ⟨_, _, dp_ss (same_upd n12 _ _ upd_same), dp_ss upd_same, shaped_ss lay_refused lay_BadCount, shaped_ss lay_refused lay_BadCount, _, rfl, ifF (by rw [SeqAt.eqv_refl _ (SeqAt.canLay_of_shaped (shaped_ss lay_refused lay_BadCount))]; rfl) ?_⟩
      generalize upd (upd H10 p11 (.tup [.str "refused", .str "BadCount"])) p12 (.tup [.str "refused", .str "BadCount"]) = H12 at h12 ⊢
      clear h8 h9 h10 h11
      -- figure, which
      refine ⟨_, rfl, b, 128, rfl, h12.bag, by decide, by decide, fun H13 fg mv13 hB13 g0 g1 => ?_⟩
      have h13 := h12.mv mv13 hB13
      refine ⟨_, rfl, b, 2, rfl, h13.bag, by decide, by decide, fun H14 wh mv14 hB14 w0 w1 => ?_⟩
      have h14 := h13.mv mv14 hB14
      obtain ⟨kp, rfl⟩ : ∃ kp, wh = whI kp := by
        by_cases z : wh = 0
        · exact ⟨true, z⟩
        · exact ⟨false, by show wh = 1; omega⟩
      clear h12 h13
      refine name_by ?_
      dsimp only
      -- thing
      refine asg_by (J := fun v H15 => ∃ (r l : Addr), v = .ref r ∧ Hs [(tP, qLam)] [tB b, tSc (clsOf C1 C2 kp) r l (wr 7 fg)] H15) ?_ (fun rest => ?_)
      · rintro v H15 ⟨r, l, rfl, h15⟩
        clear h14
        refine ⟨_, rfl, fg, 7, rfl, by decide, fun H16 m s16 n16 e16 => ?_⟩
        have h16 := h15.newB s16 n16 e16
        have hc := cells_wr fg
        generalize wr 7 fg = c0 at h16 hc
        refine ⟨_, rfl, _, rfl, b, 20, rfl, h16.bag, by decide, by decide, fun H17 d17 mv17 hB17 d170 d171 => ⟨b, d17, rfl, hB17, by omega, by omega, fun H18 pg sg mv18 hB18 np18 ep18 hsb hsl => ?_⟩⟩
        have h18 : Hs [(tP, qLam)] [tB b, tL pg (sg.map V.int), tL m (c0.map V.int), tSc (clsOf C1 C2 kp) r l c0] H18 := (h16.mv mv17 hB17).newM mv18 hB18 np18 ep18
        clear h15 h16
        have hs1 : sg.length ≤ 20 := by omega
        clear hsl
        -- push
        refine push_or rfl rfl (h18.get 3 rfl) (h18.at 1 rfl) hsb (by omega) (fun H19 o1 l1 m19 no1 eo1 hl1 hsc1 nol1 => ?_)
        have h19 := h18.pushSc 3 rfl m19 no1 eo1 hl1 hsc1 nol1
        refine lsc_call rfl rfl rfl (h19.at 2 rfl) (h19.at 3 rfl) (h19.ne 2 3 rfl rfl (.head _) (.head _)) hc hsb (by omega) (fun H20 H21 o2 s20 mv21 no2 eo2 em21 => ?_)
        have h21 := (h19.same s20).opNew (T := tL m (c0.map V.int)) (T' := tL m ((scC kp c0 sg).map V.int)) (N := tL o2 ((scO kp c0 sg).map V.int)) (F := [m]) 3 rfl (.mv mv21 em21 (.head _)) (fun p hp => .inl hp) ⟨em21, trivial⟩ (fun p hp => .inl hp) ⟨eo2, trivial⟩ (fun p hp => by
          rw [in1 hp]
          exact ⟨no2, fun z => ne_of_none ((h19.same s20).at 3 rfl) no2 (in1 z).symm⟩)
        refine ⟨.ref o1, .ref o2, dI (scO kp c0 sg), rfl, dp_ints (SqL.of (h21.at 1 rfl)), dp_ints (SqL.of (h21.at 0 rfl)), dn_ints _ (by rw [scO_len]; omega) n, shaped_ints _, fun H22 s22 => ⟨_, rfl, iteF ?_⟩⟩
        have h22 : Hs [(tP, qLam)] [tB b, tL pg (sg.map V.int), tL m ((scC kp c0 sg).map V.int), tSc (clsOf C1 C2 kp) r l1 (scC kp c0 sg)] H22 := (h21.sel [2, 3, 4, 5] (by decide)).same s22
        have hc1 : Cells (scC kp c0 sg) := scC_cells hc hsb
        generalize scC kp c0 sg = c1 at h22 hc1
        clear h18 h19 h21 hsc1
        -- at
        refine ⟨_, rfl, _, rfl, pg, _, rfl, .inl (SqL.of (h22.at 1 rfl)), _, _, rfl, rfl, b, _, rfl, h22.bag, (by rw [List.length_map]; omega), (by rw [List.length_map]; omega), fun H23 t mv23 hB23 t0 t1 => ?_⟩
        have h23 := h22.mv mv23 hB23
        rw [List.length_map] at t1
        obtain ⟨tn, rfl⟩ : ∃ tn : Nat, t = (tn : Int) := ⟨t.toNat, by omega⟩
        refine ⟨_, rfl, _, rfl, _, rfl, b, pg, sg, tn, rfl, h23.bag, h23.ne 1 0 rfl rfl (.head _) (.head _), h23.ne 1 0 rfl rfl (.head _) (.tail _ (.head _)), h23.at 1 rfl, hsb, by omega, by omega, fun H24 pb B mv24 hB24 nb24 eb24 hBl hBn hBt => ?_⟩
        have h24 := h23.newM mv24 hB24 nb24 eb24
        clear h22 h23
        refine name_by ?_
        dsimp only
        refine ⟨h24.tab, fun H25 ex25 tb25 => ?_⟩
        have h25 := h24.extN ex25 tb25
        refine pushX_or rfl rfl (h25.get 4 rfl) (h25.at 1 rfl) (by omega) hBn (fun i' z hz nb hbi H26 dd s26 nd26 ed26 => ?_)
        have ei : i' = tn := hBt i' z hz nb hbi
        subst ei
        have h26 := h25.same s26
        refine ⟨(cB, "BadBit"), .head _, rfl, dd, _, rfl, ed26, fun p27 n27 => ?_⟩
        have h27 := h26.newU (o := .lst [.str "BadBit", .int (i' : Int)]) n27
        refine ⟨_, rfl, (by show 2 ≤ sizeLine; decide), fun p28 n28 => ?_⟩
        have h28 := h27.newU (o := .lst [.str "BadBit", .int (i' : Int)]) n28
        refine ⟨_, _, dp_si (h28.at 2 rfl), dp_si (h28.at 1 rfl), shaped_si lay_BadBit _, shaped_si lay_BadBit _, _, rfl, ifF (by rw [SeqAt.eqv_refl _ (SeqAt.canLay_of_shaped (shaped_si lay_BadBit _))]; rfl) ?_⟩
        have h29 : Hs [(tP, qLam)] [tB b, tL pg (sg.map V.int), tL m (c1.map V.int), tSc (clsOf C1 C2 kp) r l1 c1] _ := h28.sel [0, 4, 5, 6] (by decide)
        generalize upd (upd H26 p27 (.lst [.str "BadBit", .int (i' : Int)])) p28 (.lst [.str "BadBit", .int (i' : Int)]) = H29 at h29 ⊢
        clear h24 h25 h26 h27 h28
        refine mem_or rfl (h29.get 3 rfl) (fun H30 s30 => ?_)
        have h30 := h29.same s30
        refine ⟨_, rfl, m, c1, rfl, SqL.of (h30.at 2 rfl), rfl, _, rfl, ifF ne_refl ?_⟩
        -- again
        refine push_or rfl rfl (h30.get 3 rfl) (h30.at 1 rfl) hsb (by omega) (fun H31 o3 l3 m31 no3 eo3 hl3 hsc3 nol3 => ?_)
        have h31 := h30.pushSc 3 rfl m31 no3 eo3 hl3 hsc3 nol3
        refine lsc_call rfl rfl rfl (h31.at 2 rfl) (h31.at 3 rfl) (h31.ne 2 3 rfl rfl (.head _) (.head _)) hc1 hsb (by omega) (fun H32 H33 o4 s32 mv33 no4 eo4 em33 => ?_)
        have h33 := (h31.same s32).opNew (T := tL m (c1.map V.int)) (T' := tL m ((scC kp c1 sg).map V.int)) (N := tL o4 ((scO kp c1 sg).map V.int)) (F := [m]) 3 rfl (.mv mv33 em33 (.head _)) (fun p hp => .inl hp) ⟨em33, trivial⟩ (fun p hp => .inl hp) ⟨eo4, trivial⟩ (fun p hp => by
          rw [in1 hp]
          exact ⟨no4, fun z => ne_of_none ((h31.same s32).at 3 rfl) no4 (in1 z).symm⟩)
        refine ⟨.ref o3, .ref o4, dI (scO kp c1 sg), rfl, dp_ints (SqL.of (h33.at 1 rfl)), dp_ints (SqL.of (h33.at 0 rfl)), dn_ints _ (by rw [scO_len]; omega) n, shaped_ints _, fun H34 s34 => ⟨_, rfl, iteF ?_⟩⟩
        exact ⟨_, _, _, _, _, _, _, _, _, _, rfl, (h33.sel [2] (by decide)).same s34⟩
      · refine ⟨_, rfl, rfl, rfl, fun x1 dx1 nx1 ndx1 nex1 => ⟨x1, dx1, fg, rfl, upd_same, (fun _ _ H5 l1 m5 nl5 e51 e52 => ⟨rfl, ?_⟩), (fun bad => by rcases bad with h | h <;> omega)⟩⟩
        obtain ⟨s5, hs5, nl5'⟩ := scr_made nx1 ndx1 m5 nl5 e51 e52
        have h5 := h14.newSc s5 hs5 nx1 nl5'
        refine ⟨_, rfl, rfl, rfl, fun x2 dx2 nx2 ndx2 nex2 => ⟨x2, dx2, fg, rfl, upd_same, (fun _ _ H6 l2 m6 nl6 e61 e62 => ⟨rfl, ?_⟩), (fun bad => by rcases bad with h | h <;> omega)⟩⟩
        obtain ⟨s6, hs6, nl6'⟩ := scr_made nx2 ndx2 m6 nl6 e61 e62
        have h6 := h5.newSc s6 hs6 nx2 nl6'
        refine ⟨(by show 2 ≤ sizeLine; decide), fun p7 n7 => ?_⟩
        have h7 := h6.newHU (o := .lst [.ref x1, .ref x2]) n7
        cases kp with
        | true => exact ⟨_, rfl, p7, [.ref x1, .ref x2], _, .ref x1, rfl, rfl, SqL.of upd_same, rfl, rest _ _ ⟨x1, l1, rfl, h7.sel [3, 2] (by decide)⟩⟩
        | false => exact ⟨_, rfl, p7, [.ref x1, .ref x2], _, .ref x2, rfl, rfl, SqL.of upd_same, rfl, rest _ _ ⟨x2, l2, rfl, h7.sel [3, 1] (by decide)⟩⟩
    · rintro σ H1 ⟨y2, y3, y4, y5, y6, y7, y8, y9, y10, y11, rfl, h1⟩
      exact q H1
end
/-! ### the end -/
theorem all_mk {l : PySem.W.OpenLaw} {w : World} {K : PySem.W.Frag} {h : Heap} {mg : Str → Option Value} {fa f0 f1 f2 f3 f4 f5 f6 f7 f8 f9 f10 f11 f12 f13 f14 f15 f16 f17 f18 f19 f20 f21 f22 f23 : Addr} (X : K.In h) (G : h.Ns mainGlobals mg) (hfa : mg "law" = some (.ref fa)) (own : LamX.OwnTab K fa h)
    {cScrambler : Addr}
    {cDescrambler : Addr}
    {oc0 : Value} {od0 an0 : Option Addr} {sl0 : Array (Option Value)} {kV0 dc0 pm0 cd0 ct0 : Value}
    {oc1 : Value} {od1 an1 : Option Addr} {sl1 : Array (Option Value)} {kV1 dc1 pm1 cd1 ct1 : Value}
    {oc2 : Value} {od2 an2 : Option Addr} {sl2 : Array (Option Value)} {kV2 dc2 pm2 cd2 ct2 : Value}
    {oc3 : Value} {od3 an3 : Option Addr} {sl3 : Array (Option Value)} {kV3 dc3 pm3 cd3 ct3 : Value}
    {oc4 : Value} {od4 an4 : Option Addr} {sl4 : Array (Option Value)} { dc4 pm4 cd4 ct4 : Value}
    {D4 : Addr} {tD4 : Tok}
    {oc5 : Value} {od5 an5 : Option Addr} {sl5 : Array (Option Value)} {kV5 dc5 pm5 cd5 ct5 : Value}
    {oc6 : Value} {od6 an6 : Option Addr} {sl6 : Array (Option Value)} {kV6 dc6 pm6 cd6 ct6 : Value}
    {oc7 : Value} {od7 an7 : Option Addr} {sl7 : Array (Option Value)} { dc7 pm7 cd7 ct7 : Value}
    {D7 : Addr} {tD7 : Tok}
    {oc8 : Value} {od8 an8 : Option Addr} {sl8 : Array (Option Value)} {kV8 dc8 pm8 cd8 ct8 : Value}
    {oc9 : Value} {od9 an9 : Option Addr} {sl9 : Array (Option Value)} {kV9 dc9 pm9 cd9 ct9 : Value}
    {oc10 : Value} {od10 an10 : Option Addr} {sl10 : Array (Option Value)} {kV10 dc10 pm10 cd10 ct10 : Value}
    {oc11 : Value} {od11 an11 : Option Addr} {sl11 : Array (Option Value)} {kV11 dc11 pm11 cd11 ct11 : Value}
    {oc12 : Value} {od12 an12 : Option Addr} {sl12 : Array (Option Value)} {kV12 dc12 pm12 cd12 ct12 : Value}
    {oc13 : Value} {od13 an13 : Option Addr} {sl13 : Array (Option Value)} {kV13 dc13 pm13 cd13 ct13 : Value}
    {oc14 : Value} {od14 an14 : Option Addr} {sl14 : Array (Option Value)} {kV14 dc14 pm14 cd14 ct14 : Value}
    {oc15 : Value} {od15 an15 : Option Addr} {sl15 : Array (Option Value)} {kV15 dc15 pm15 cd15 ct15 : Value}
    {oc16 : Value} {od16 an16 : Option Addr} {sl16 : Array (Option Value)} {kV16 dc16 pm16 cd16 ct16 : Value}
    {oc17 : Value} {od17 an17 : Option Addr} {sl17 : Array (Option Value)} {kV17 dc17 pm17 cd17 ct17 : Value}
    {oc18 : Value} {od18 an18 : Option Addr} {sl18 : Array (Option Value)} {kV18 dc18 pm18 cd18 ct18 : Value}
    {oc19 : Value} {od19 an19 : Option Addr} {sl19 : Array (Option Value)} {kV19 dc19 pm19 cd19 ct19 : Value}
    {oc20 : Value} {od20 an20 : Option Addr} {sl20 : Array (Option Value)} {kV20 dc20 pm20 cd20 ct20 : Value}
    {oc21 : Value} {od21 an21 : Option Addr} {sl21 : Array (Option Value)} {kV21 dc21 pm21 cd21 ct21 : Value}
    {oc22 : Value} {od22 an22 : Option Addr} {sl22 : Array (Option Value)} {kV22 dc22 pm22 cd22 ct22 : Value}
    {oc23 : Value} {od23 an23 : Option Addr} {sl23 : Array (Option Value)} {kV23 dc23 pm23  ct23 : Value}
    {cL_ tP : Addr} {eT : Value} {ddT : Option Addr} {vsT : Array Value} {slT : Array (Option Value)}
    {cLE fLE dLE : Addr} {ocLE : Value} {odLE anLE : Option Addr} {slLE : Array (Option Value)} {kVLE dcLE pmLE cdLE ctLE : Value} {oD : Option Addr} {mD : Nat} {slD : Array (Option Value)} {tD1 tD2 : Tok}
    {xBadBit : Addr}
    {xBadByte : Addr}
    {xBadFrame : Addr}
    {xBadCode : Addr}
    {xBadCount : Addr}
    {xMissing : Addr}
    {fIBadBit : Addr} {nmBadBit qBadBit : Str} {NBadBit : Addr} {bsBadBit bmBadBit : List Value} {snBadBit : List Str} {subBadBit : List Value} {abBadBit : Bool} {colBadBit : Option Bool} {ddBadBit : Option Addr} {kaBadBit kbBadBit kcBadBit kdBadBit keBadBit : Option Value}
    {ocBadBit : Value} {odBadBit anBadBit : Option Addr} {slBadBit : Array (Option Value)} {kVBadBit dcBadBit pmBadBit cdBadBit ctBadBit : Value}
    {fIBadCount : Addr} {nmBadCount qBadCount : Str} {NBadCount : Addr} {bsBadCount bmBadCount : List Value} {snBadCount : List Str} {subBadCount : List Value} {abBadCount : Bool} {colBadCount : Option Bool} {ddBadCount : Option Addr} {kaBadCount kbBadCount kcBadCount kdBadCount keBadCount : Option Value}
    {ocBadCount : Value} {odBadCount anBadCount : Option Addr} {slBadCount : Array (Option Value)} {kVBadCount dcBadCount pmBadCount cdBadCount ctBadCount : Value}
    {t_MOST_BITS : Tok}
    {t_MEMORY_BITS : Tok}
    {t_FOURTH : Tok}
    {t_SEVENTH : Tok}
    (r1Scrambler : PySem.W.nsIn K mainGlobals "Scrambler" = some (some (.ref cScrambler)))
    (r2Scrambler : PySem.W.plainGet K cScrambler Str.empty = true)
    (r3Scrambler : PySem.W.hasDictIn K cScrambler = true)
    (r4Scrambler : PySem.W.plainOver K cScrambler = true)
    (r5Scrambler : PySem.W.findIn K (.ref cScrambler) "__setattr__" = some (some (.builtin "object.__setattr__")))
    (r6Scrambler : PySem.W.makesIn K cScrambler = true)
    (r7Scrambler : PySem.W.keepIn K (.ref cScrambler) = true)
    (r_Scrambler_cells : PySem.W.findIn K (.ref cScrambler) "cells" = some none)
    (r1Descrambler : PySem.W.nsIn K mainGlobals "Descrambler" = some (some (.ref cDescrambler)))
    (r2Descrambler : PySem.W.plainGet K cDescrambler Str.empty = true)
    (r3Descrambler : PySem.W.hasDictIn K cDescrambler = true)
    (r4Descrambler : PySem.W.plainOver K cDescrambler = true)
    (r5Descrambler : PySem.W.findIn K (.ref cDescrambler) "__setattr__" = some (some (.builtin "object.__setattr__")))
    (r6Descrambler : PySem.W.makesIn K cDescrambler = true)
    (r7Descrambler : PySem.W.keepIn K (.ref cDescrambler) = true)
    (r_Descrambler_cells : PySem.W.findIn K (.ref cDescrambler) "cells" = some none)
    (a0 : PySem.W.nsIn K mainGlobals "check_bits" = some (some (.ref f0)))
    (l0 : K.lookup f0 = some ⟨oc0, od0, .func (PySem.W.fnOf "check_bits" "check_bits" (defArgs s_check_bits) (defBody s_check_bits) (defScope s_check_bits) .none kV0 dc0 pm0 an0 cd0 ct0), sl0⟩)
    (c0 : PySem.W.codeIn K cd0 "check_bits" = true)
    (k0 : PySem.W.keepIn K (.ref f0) = true)
    (a1 : PySem.W.nsIn K mainGlobals "number_bits" = some (some (.ref f1)))
    (l1 : K.lookup f1 = some ⟨oc1, od1, .func (PySem.W.fnOf "number_bits" "number_bits" (defArgs s_number_bits) (defBody s_number_bits) (defScope s_number_bits) .none kV1 dc1 pm1 an1 cd1 ct1), sl1⟩)
    (c1 : PySem.W.codeIn K cd1 "number_bits" = true)
    (k1 : PySem.W.keepIn K (.ref f1) = true)
    (a2 : PySem.W.nsIn K mainGlobals "bits_number" = some (some (.ref f2)))
    (l2 : K.lookup f2 = some ⟨oc2, od2, .func (PySem.W.fnOf "bits_number" "bits_number" (defArgs s_bits_number) (defBody s_bits_number) (defScope s_bits_number) .none kV2 dc2 pm2 an2 cd2 ct2), sl2⟩)
    (c2 : PySem.W.codeIn K cd2 "bits_number" = true)
    (k2 : PySem.W.keepIn K (.ref f2) = true)
    (a3 : PySem.W.nsIn K mainGlobals "pushed_through" = some (some (.ref f3)))
    (l3 : K.lookup f3 = some ⟨oc3, od3, .func (PySem.W.fnOf "pushed_through" "pushed_through" (defArgs s_pushed_through) (defBody s_pushed_through) (defScope s_pushed_through) .none kV3 dc3 pm3 an3 cd3 ct3), sl3⟩)
    (c3 : PySem.W.codeIn K cd3 "pushed_through" = true)
    (k3 : PySem.W.keepIn K (.ref f3) = true)
    (a4 : PySem.W.findIn K (.ref cScrambler) "__init__" = some (some (.ref f4)))
    (i4 : PySem.W.isFn K (.ref f4) = true)
    (l4 : K.lookup f4 = some ⟨oc4, od4, .func (PySem.W.fnOf "__init__" "Scrambler.__init__" (defArgs m_Scrambler___init__) (defBody m_Scrambler___init__) (defScope m_Scrambler___init__) .none (.ref D4) dc4 pm4 an4 cd4 ct4), sl4⟩)
    (v4 : PySem.W.nsIn K D4 "seed" = some (some (.int 0 tD4)))
    (c4 : PySem.W.codeIn K cd4 "Scrambler.__init__" = true)
    (k4 : PySem.W.keepIn K (.ref f4) = true)
    (a5 : PySem.W.findIn K (.ref cScrambler) "push" = some (some (.ref f5)))
    (i5 : PySem.W.isFn K (.ref f5) = true)
    (l5 : K.lookup f5 = some ⟨oc5, od5, .func (PySem.W.fnOf "push" "Scrambler.push" (defArgs m_Scrambler_push) (defBody m_Scrambler_push) (defScope m_Scrambler_push) .none kV5 dc5 pm5 an5 cd5 ct5), sl5⟩)
    (c5 : PySem.W.codeIn K cd5 "Scrambler.push" = true)
    (k5 : PySem.W.keepIn K (.ref f5) = true)
    (a6 : PySem.W.findIn K (.ref cScrambler) "memory" = some (some (.ref f6)))
    (i6 : PySem.W.isFn K (.ref f6) = true)
    (l6 : K.lookup f6 = some ⟨oc6, od6, .func (PySem.W.fnOf "memory" "Scrambler.memory" (defArgs m_Scrambler_memory) (defBody m_Scrambler_memory) (defScope m_Scrambler_memory) .none kV6 dc6 pm6 an6 cd6 ct6), sl6⟩)
    (c6 : PySem.W.codeIn K cd6 "Scrambler.memory" = true)
    (k6 : PySem.W.keepIn K (.ref f6) = true)
    (a7 : PySem.W.findIn K (.ref cDescrambler) "__init__" = some (some (.ref f7)))
    (i7 : PySem.W.isFn K (.ref f7) = true)
    (l7 : K.lookup f7 = some ⟨oc7, od7, .func (PySem.W.fnOf "__init__" "Descrambler.__init__" (defArgs m_Descrambler___init__) (defBody m_Descrambler___init__) (defScope m_Descrambler___init__) .none (.ref D7) dc7 pm7 an7 cd7 ct7), sl7⟩)
    (v7 : PySem.W.nsIn K D7 "seed" = some (some (.int 0 tD7)))
    (c7 : PySem.W.codeIn K cd7 "Descrambler.__init__" = true)
    (k7 : PySem.W.keepIn K (.ref f7) = true)
    (a8 : PySem.W.findIn K (.ref cDescrambler) "push" = some (some (.ref f8)))
    (i8 : PySem.W.isFn K (.ref f8) = true)
    (l8 : K.lookup f8 = some ⟨oc8, od8, .func (PySem.W.fnOf "push" "Descrambler.push" (defArgs m_Descrambler_push) (defBody m_Descrambler_push) (defScope m_Descrambler_push) .none kV8 dc8 pm8 an8 cd8 ct8), sl8⟩)
    (c8 : PySem.W.codeIn K cd8 "Descrambler.push" = true)
    (k8 : PySem.W.keepIn K (.ref f8) = true)
    (a9 : PySem.W.findIn K (.ref cDescrambler) "memory" = some (some (.ref f9)))
    (i9 : PySem.W.isFn K (.ref f9) = true)
    (l9 : K.lookup f9 = some ⟨oc9, od9, .func (PySem.W.fnOf "memory" "Descrambler.memory" (defArgs m_Descrambler_memory) (defBody m_Descrambler_memory) (defScope m_Descrambler_memory) .none kV9 dc9 pm9 an9 cd9 ct9), sl9⟩)
    (c9 : PySem.W.codeIn K cd9 "Descrambler.memory" = true)
    (k9 : PySem.W.keepIn K (.ref f9) = true)
    (a10 : PySem.W.nsIn K mainGlobals "_law_bag" = some (some (.ref f10)))
    (l10 : K.lookup f10 = some ⟨oc10, od10, .func (PySem.W.fnOf "_law_bag" "_law_bag" (defArgs s__law_bag) (defBody s__law_bag) (defScope s__law_bag) .none kV10 dc10 pm10 an10 cd10 ct10), sl10⟩)
    (c10 : PySem.W.codeIn K cd10 "_law_bag" = true)
    (k10 : PySem.W.keepIn K (.ref f10) = true)
    (a11 : PySem.W.nsIn K mainGlobals "_law_pick" = some (some (.ref f11)))
    (l11 : K.lookup f11 = some ⟨oc11, od11, .func (PySem.W.fnOf "_law_pick" "_law_pick" (defArgs s__law_pick) (defBody s__law_pick) (defScope s__law_pick) .none kV11 dc11 pm11 an11 cd11 ct11), sl11⟩)
    (c11 : PySem.W.codeIn K cd11 "_law_pick" = true)
    (k11 : PySem.W.keepIn K (.ref f11) = true)
    (a12 : PySem.W.nsIn K mainGlobals "_law_of" = some (some (.ref f12)))
    (l12 : K.lookup f12 = some ⟨oc12, od12, .func (PySem.W.fnOf "_law_of" "_law_of" (defArgs s__law_of) (defBody s__law_of) (defScope s__law_of) .none kV12 dc12 pm12 an12 cd12 ct12), sl12⟩)
    (c12 : PySem.W.codeIn K cd12 "_law_of" = true)
    (k12 : PySem.W.keepIn K (.ref f12) = true)
    (a13 : PySem.W.nsIn K mainGlobals "_law_same" = some (some (.ref f13)))
    (l13 : K.lookup f13 = some ⟨oc13, od13, .func (PySem.W.fnOf "_law_same" "_law_same" (defArgs s__law_same) (defBody s__law_same) (defScope s__law_same) .none kV13 dc13 pm13 an13 cd13 ct13), sl13⟩)
    (c13 : PySem.W.codeIn K cd13 "_law_same" = true)
    (k13 : PySem.W.keepIn K (.ref f13) = true)
    (a14 : PySem.W.nsIn K mainGlobals "_law_tried" = some (some (.ref f14)))
    (l14 : K.lookup f14 = some ⟨oc14, od14, .func (PySem.W.fnOf "_law_tried" "_law_tried" (defArgs s__law_tried) (defBody s__law_tried) (defScope s__law_tried) .none kV14 dc14 pm14 an14 cd14 ct14), sl14⟩)
    (c14 : PySem.W.codeIn K cd14 "_law_tried" = true)
    (k14 : PySem.W.keepIn K (.ref f14) = true)
    (a15 : PySem.W.nsIn K mainGlobals "_law_at" = some (some (.ref f15)))
    (l15 : K.lookup f15 = some ⟨oc15, od15, .func (PySem.W.fnOf "_law_at" "_law_at" (defArgs s__law_at) (defBody s__law_at) (defScope s__law_at) .none kV15 dc15 pm15 an15 cd15 ct15), sl15⟩)
    (c15 : PySem.W.codeIn K cd15 "_law_at" = true)
    (k15 : PySem.W.keepIn K (.ref f15) = true)
    (a16 : PySem.W.nsIn K mainGlobals "_law_written" = some (some (.ref f16)))
    (l16 : K.lookup f16 = some ⟨oc16, od16, .func (PySem.W.fnOf "_law_written" "_law_written" (defArgs s__law_written) (defBody s__law_written) (defScope s__law_written) .none kV16 dc16 pm16 an16 cd16 ct16), sl16⟩)
    (c16 : PySem.W.codeIn K cd16 "_law_written" = true)
    (k16 : PySem.W.keepIn K (.ref f16) = true)
    (a17 : PySem.W.nsIn K mainGlobals "_law_worth" = some (some (.ref f17)))
    (l17 : K.lookup f17 = some ⟨oc17, od17, .func (PySem.W.fnOf "_law_worth" "_law_worth" (defArgs s__law_worth) (defBody s__law_worth) (defScope s__law_worth) .none kV17 dc17 pm17 an17 cd17 ct17), sl17⟩)
    (c17 : PySem.W.codeIn K cd17 "_law_worth" = true)
    (k17 : PySem.W.keepIn K (.ref f17) = true)
    (a18 : PySem.W.nsIn K mainGlobals "_law_bits" = some (some (.ref f18)))
    (l18 : K.lookup f18 = some ⟨oc18, od18, .func (PySem.W.fnOf "_law_bits" "_law_bits" (defArgs s__law_bits) (defBody s__law_bits) (defScope s__law_bits) .none kV18 dc18 pm18 an18 cd18 ct18), sl18⟩)
    (c18 : PySem.W.codeIn K cd18 "_law_bits" = true)
    (k18 : PySem.W.keepIn K (.ref f18) = true)
    (a19 : PySem.W.nsIn K mainGlobals "_law_strange" = some (some (.ref f19)))
    (l19 : K.lookup f19 = some ⟨oc19, od19, .func (PySem.W.fnOf "_law_strange" "_law_strange" (defArgs s__law_strange) (defBody s__law_strange) (defScope s__law_strange) .none kV19 dc19 pm19 an19 cd19 ct19), sl19⟩)
    (c19 : PySem.W.codeIn K cd19 "_law_strange" = true)
    (k19 : PySem.W.keepIn K (.ref f19) = true)
    (a20 : PySem.W.nsIn K mainGlobals "_law_scrambled" = some (some (.ref f20)))
    (l20 : K.lookup f20 = some ⟨oc20, od20, .func (PySem.W.fnOf "_law_scrambled" "_law_scrambled" (defArgs s__law_scrambled) (defBody s__law_scrambled) (defScope s__law_scrambled) .none kV20 dc20 pm20 an20 cd20 ct20), sl20⟩)
    (c20 : PySem.W.codeIn K cd20 "_law_scrambled" = true)
    (k20 : PySem.W.keepIn K (.ref f20) = true)
    (a21 : PySem.W.nsIn K mainGlobals "_law_descrambled" = some (some (.ref f21)))
    (l21 : K.lookup f21 = some ⟨oc21, od21, .func (PySem.W.fnOf "_law_descrambled" "_law_descrambled" (defArgs s__law_descrambled) (defBody s__law_descrambled) (defScope s__law_descrambled) .none kV21 dc21 pm21 an21 cd21 ct21), sl21⟩)
    (c21 : PySem.W.codeIn K cd21 "_law_descrambled" = true)
    (k21 : PySem.W.keepIn K (.ref f21) = true)
    (a22 : PySem.W.nsIn K mainGlobals "_law_spoilt" = some (some (.ref f22)))
    (l22 : K.lookup f22 = some ⟨oc22, od22, .func (PySem.W.fnOf "_law_spoilt" "_law_spoilt" (defArgs s__law_spoilt) (defBody s__law_spoilt) (defScope s__law_spoilt) .none kV22 dc22 pm22 an22 cd22 ct22), sl22⟩)
    (c22 : PySem.W.codeIn K cd22 "_law_spoilt" = true)
    (k22 : PySem.W.keepIn K (.ref f22) = true)
    (a23 : PySem.W.nsIn K mainGlobals "law" = some (some (.ref f23)))
    (l23 : K.lookup f23 = some ⟨oc23, od23, .func (PySem.W.fnOf "law" "law" (defArgs s_law) (defBody s_law) (defScope s_law) .none kV23 dc23 pm23 an23 (.ref cL_) ct23), sl23⟩)
    (c23 : PySem.W.codeIn K (.ref cL_) "law" = true)
    (k23 : PySem.W.keepIn K (.ref f23) = true)
    (t1 : K.lookup cL_ = some ⟨eT, ddT, .fields vsT, slT⟩)
    (t2 : (vsT[11]? : Option Value) = some (.ref tP))
    (t3 : PySem.W.codeHdIn K cL_ tP = true)
    (t4 : K.lookup tP = none)
    (e1 : PySem.W.nsIn K mainGlobals "LineError" = some (some (.ref cLE)))
    (e2 : PySem.W.specialIn K (.ref cLE) "__getattribute__" = some (some (.builtin "type.__getattribute__")))
    (e3 : PySem.W.typeIn K (.ref cLE) = some (.type "type"))
    (e4 : PySem.W.readsIn K cLE (.type "type") = true)
    (e5 : PySem.W.findCls K (.ref cLE) (.type "type") "__init__" = some (.val (.ref fLE)))
    (e6 : PySem.W.keepIn K (.ref fLE) = true)
    (e7 : K.lookup fLE = some ⟨ocLE, odLE, .func (PySem.W.fnOf "__init__" "LineError.__init__" (defArgs i_LineError) (defBody i_LineError) (defScope i_LineError) (.ref dLE) kVLE dcLE pmLE anLE cdLE ctLE), slLE⟩)
    (e8 : PySem.W.codeIn K cdLE "LineError.__init__" = true)
    (e9 : K.lookup dLE = some ⟨.type "tuple", oD, .seq #[.str "LineError" tD1, .str "refused" tD2] mD, slD⟩)
    (e10 : PySem.W.findCls K (.type "ValueError") (.type "type") "__init__" = some (.val (.builtin "ValueError.__init__")))
    (z_ValueError : PySem.W.nsIn K mainGlobals "ValueError" = some none)
    (gBadBit : PySem.W.nsIn K mainGlobals "BadBit" = some (some (.ref xBadBit)))
    (gaBadBit : PySem.W.findIn K (.ref xBadBit) "__getattribute__" = some (some (.builtin "BaseException.__getattribute__")))
    (ggBadBit : PySem.W.findIn K (.ref xBadBit) "__getattr__" = some none)
    (exBadBit : PySem.W.subIn K (.ref xBadBit) (.type "BaseException") = some true)
    (hdBadBit : PySem.W.hasDictIn K xBadBit = true)
    (noBadBit : PySem.W.findIn K (.ref xBadBit) "at" = some none)
    (gBadByte : PySem.W.nsIn K mainGlobals "BadByte" = some (some (.ref xBadByte)))
    (gaBadByte : PySem.W.findIn K (.ref xBadByte) "__getattribute__" = some (some (.builtin "BaseException.__getattribute__")))
    (ggBadByte : PySem.W.findIn K (.ref xBadByte) "__getattr__" = some none)
    (exBadByte : PySem.W.subIn K (.ref xBadByte) (.type "BaseException") = some true)
    (hdBadByte : PySem.W.hasDictIn K xBadByte = true)
    (noBadByte : PySem.W.findIn K (.ref xBadByte) "at" = some none)
    (gBadFrame : PySem.W.nsIn K mainGlobals "BadFrame" = some (some (.ref xBadFrame)))
    (gaBadFrame : PySem.W.findIn K (.ref xBadFrame) "__getattribute__" = some (some (.builtin "BaseException.__getattribute__")))
    (ggBadFrame : PySem.W.findIn K (.ref xBadFrame) "__getattr__" = some none)
    (exBadFrame : PySem.W.subIn K (.ref xBadFrame) (.type "BaseException") = some true)
    (hdBadFrame : PySem.W.hasDictIn K xBadFrame = true)
    (noBadFrame : PySem.W.findIn K (.ref xBadFrame) "at" = some none)
    (gBadCode : PySem.W.nsIn K mainGlobals "BadCode" = some (some (.ref xBadCode)))
    (gaBadCode : PySem.W.findIn K (.ref xBadCode) "__getattribute__" = some (some (.builtin "BaseException.__getattribute__")))
    (ggBadCode : PySem.W.findIn K (.ref xBadCode) "__getattr__" = some none)
    (exBadCode : PySem.W.subIn K (.ref xBadCode) (.type "BaseException") = some true)
    (hdBadCode : PySem.W.hasDictIn K xBadCode = true)
    (noBadCode : PySem.W.findIn K (.ref xBadCode) "at" = some none)
    (mBadBitBadBit : PySem.W.exmOne K (.ref xBadBit) (.ref xBadBit) = some true)
    (mBadByteBadBit : PySem.W.exmOne K (.ref xBadByte) (.ref xBadBit) = some false)
    (mBadByteBadByte : PySem.W.exmOne K (.ref xBadByte) (.ref xBadByte) = some true)
    (mBadFrameBadBit : PySem.W.exmOne K (.ref xBadFrame) (.ref xBadBit) = some false)
    (mBadFrameBadByte : PySem.W.exmOne K (.ref xBadFrame) (.ref xBadByte) = some false)
    (mBadFrameBadFrame : PySem.W.exmOne K (.ref xBadFrame) (.ref xBadFrame) = some true)
    (mBadCodeBadBit : PySem.W.exmOne K (.ref xBadCode) (.ref xBadBit) = some false)
    (mBadCodeBadByte : PySem.W.exmOne K (.ref xBadCode) (.ref xBadByte) = some false)
    (mBadCodeBadFrame : PySem.W.exmOne K (.ref xBadCode) (.ref xBadFrame) = some false)
    (mBadCodeBadCode : PySem.W.exmOne K (.ref xBadCode) (.ref xBadCode) = some true)
    (gBadCount : PySem.W.nsIn K mainGlobals "BadCount" = some (some (.ref xBadCount)))
    (gaBadCount : PySem.W.findIn K (.ref xBadCount) "__getattribute__" = some (some (.builtin "BaseException.__getattribute__")))
    (ggBadCount : PySem.W.findIn K (.ref xBadCount) "__getattr__" = some none)
    (exBadCount : PySem.W.subIn K (.ref xBadCount) (.type "BaseException") = some true)
    (hdBadCount : PySem.W.hasDictIn K xBadCount = true)
    (gMissing : PySem.W.nsIn K mainGlobals "Missing" = some (some (.ref xMissing)))
    (mBLine : PySem.W.exmOne K (.ref xBadCount) (.ref cLE) = some true)
    (o1BadBit : K.lookup xBadBit = some (excClassObj nmBadBit qBadBit xBadBit NBadBit bsBadBit bmBadBit true snBadBit subBadBit abBadBit colBadBit ddBadBit kaBadBit kbBadBit kcBadBit kdBadBit keBadBit "ValueError.__new__"))
    (o2BadBit : PySem.HandSPX.refsVE bmBadBit = true)
    (o3BadBit : PySem.W.findIn K (.ref xBadBit) "__setattr__" = some (some (.builtin "object.__setattr__")))
    (o4BadBit : PySem.W.typeIn K (.ref xBadBit) = some (.type "type"))
    (o5BadBit : PySem.W.keepIn K (.ref xBadBit) = true)
    (o6BadBit : PySem.W.findIn K (.ref xBadBit) "__init__" = some (some (.ref fIBadBit)))
    (o7BadBit : PySem.W.typeIn K (.ref fIBadBit) = some (.type "function"))
    (o8BadBit : K.lookup fIBadBit = some ⟨ocBadBit, odBadBit, .func (PySem.W.fnOf "__init__" "BadBit.__init__" (defArgs i_BadBit) (defBody i_BadBit) (defScope i_BadBit) .none kVBadBit dcBadBit pmBadBit anBadBit cdBadBit ctBadBit), slBadBit⟩)
    (o9BadBit : PySem.W.codeIn K cdBadBit "BadBit.__init__" = true)
    (p1BadBit : PySem.W.keepIn K (.ref fIBadBit) = true)
    (p2BadBit : PySem.W.findIn K (.ref xBadBit) "word" = some none)
    (o1BadCount : K.lookup xBadCount = some (excClassObj nmBadCount qBadCount xBadCount NBadCount bsBadCount bmBadCount true snBadCount subBadCount abBadCount colBadCount ddBadCount kaBadCount kbBadCount kcBadCount kdBadCount keBadCount "ValueError.__new__"))
    (o2BadCount : PySem.HandSPX.refsVE bmBadCount = true)
    (o3BadCount : PySem.W.findIn K (.ref xBadCount) "__setattr__" = some (some (.builtin "object.__setattr__")))
    (o4BadCount : PySem.W.typeIn K (.ref xBadCount) = some (.type "type"))
    (o5BadCount : PySem.W.keepIn K (.ref xBadCount) = true)
    (o6BadCount : PySem.W.findIn K (.ref xBadCount) "__init__" = some (some (.ref fIBadCount)))
    (o7BadCount : PySem.W.typeIn K (.ref fIBadCount) = some (.type "function"))
    (o8BadCount : K.lookup fIBadCount = some ⟨ocBadCount, odBadCount, .func (PySem.W.fnOf "__init__" "BadCount.__init__" (defArgs i_BadCount) (defBody i_BadCount) (defScope i_BadCount) .none kVBadCount dcBadCount pmBadCount anBadCount cdBadCount ctBadCount), slBadCount⟩)
    (o9BadCount : PySem.W.codeIn K cdBadCount "BadCount.__init__" = true)
    (p1BadCount : PySem.W.keepIn K (.ref fIBadCount) = true)
    (p2BadCount : PySem.W.findIn K (.ref xBadCount) "word" = some none)
    (z_enumerate : PySem.W.nsIn K mainGlobals "enumerate" = some none)
    (z_range : PySem.W.nsIn K mainGlobals "range" = some none)
    (z_len : PySem.W.nsIn K mainGlobals "len" = some none)
    (z_list : PySem.W.nsIn K mainGlobals "list" = some none)
    (z_all : PySem.W.nsIn K mainGlobals "all" = some none)
    (z_bool : PySem.W.nsIn K mainGlobals "bool" = some none)
    (z_int : PySem.W.nsIn K mainGlobals "int" = some none)
    (z_isinstance : PySem.W.nsIn K mainGlobals "isinstance" = some none)
    (z_str : PySem.W.nsIn K mainGlobals "str" = some none)
    (z_tuple : PySem.W.nsIn K mainGlobals "tuple" = some none)
    (q_MOST_BITS : PySem.W.nsIn K mainGlobals "MOST_BITS" = some (some (.int 64 t_MOST_BITS)))
    (q_MEMORY_BITS : PySem.W.nsIn K mainGlobals "MEMORY_BITS" = some (some (.int 7 t_MEMORY_BITS)))
    (q_FOURTH : PySem.W.nsIn K mainGlobals "FOURTH" = some (some (.int 3 t_FOURTH)))
    (q_SEVENTH : PySem.W.nsIn K mainGlobals "SEVENTH" = some (some (.int 6 t_SEVENTH))) :
    LamX.LawAtS l w K CX0 9 63 "_law_script" mg fa h := by
  have e := hfa.symm.trans (PySem.W.mg_of X G a23)
  cases e
  have F0 := fun_mk (st := s_check_bits) l0 c0 k0
  have b0 := F0.binds (ps := ["bits"]) fun _ _ _ _ _ _ us hl => match us, hl with | [_], _ => rfl
  have F1 := fun_mk (st := s_number_bits) l1 c1 k1
  have b1 := F1.binds (ps := ["number", "many"]) fun _ _ _ _ _ _ us hl => match us, hl with | [_, _], _ => rfl
  have F2 := fun_mk (st := s_bits_number) l2 c2 k2
  have b2 := F2.binds (ps := ["bits"]) fun _ _ _ _ _ _ us hl => match us, hl with | [_], _ => rfl
  have F3 := fun_mk (st := s_pushed_through) l3 c3 k3
  have b3 := F3.binds (ps := ["cells", "bits", "keeps_out"]) fun _ _ _ _ _ _ us hl => match us, hl with | [_, _, _], _ => rfl
  have F4 := funD_one (x := "__init__") (qual := "Scrambler.__init__") (params := defArgs m_Scrambler___init__) (body := defBody m_Scrambler___init__) (scope := defScope m_Scrambler___init__) (y := "seed") (v := .int 0) l4 c4 k4 v4 ⟨_, rfl⟩
  have F5 := fun_mk (st := m_Scrambler_push) l5 c5 k5
  have b5 := F5.binds (ps := ["self", "bits"]) fun _ _ _ _ _ _ us hl => match us, hl with | [_, _], _ => rfl
  have F6 := fun_mk (st := m_Scrambler_memory) l6 c6 k6
  have b6 := F6.binds (ps := ["self"]) fun _ _ _ _ _ _ us hl => match us, hl with | [_], _ => rfl
  have F7 := funD_one (x := "__init__") (qual := "Descrambler.__init__") (params := defArgs m_Descrambler___init__) (body := defBody m_Descrambler___init__) (scope := defScope m_Descrambler___init__) (y := "seed") (v := .int 0) l7 c7 k7 v7 ⟨_, rfl⟩
  have F8 := fun_mk (st := m_Descrambler_push) l8 c8 k8
  have b8 := F8.binds (ps := ["self", "bits"]) fun _ _ _ _ _ _ us hl => match us, hl with | [_, _], _ => rfl
  have F9 := fun_mk (st := m_Descrambler_memory) l9 c9 k9
  have b9 := F9.binds (ps := ["self"]) fun _ _ _ _ _ _ us hl => match us, hl with | [_], _ => rfl
  have F10 := fun_mk (st := s__law_bag) l10 c10 k10
  have b10 := F10.binds (ps := ["_law_script"]) fun _ _ _ _ _ _ us hl => match us, hl with | [_], _ => rfl
  have F11 := fun_mk (st := s__law_pick) l11 c11 k11
  have b11 := F11.binds (ps := ["_law_bag_here", "_law_top"]) fun _ _ _ _ _ _ us hl => match us, hl with | [_, _], _ => rfl
  have F12 := fun_mk (st := s__law_of) l12 c12 k12
  have b12 := F12.binds (ps := ["_law_bag_here", "_law_some"]) fun _ _ _ _ _ _ us hl => match us, hl with | [_, _], _ => rfl
  have F13 := fun_mk (st := s__law_same) l13 c13 k13
  have b13 := F13.binds (ps := ["_law_found", "_law_due"]) fun _ _ _ _ _ _ us hl => match us, hl with | [_, _], _ => rfl
  have F14 := fun_mk (st := s__law_tried) l14 c14 k14
  have b14 := F14.binds (ps := ["_law_act"]) fun _ _ _ _ _ _ us hl => match us, hl with | [_], _ => rfl
  have F15 := fun_mk (st := s__law_at) l15 c15 k15
  have b15 := F15.binds (ps := ["_law_act"]) fun _ _ _ _ _ _ us hl => match us, hl with | [_], _ => rfl
  have F16 := fun_mk (st := s__law_written) l16 c16 k16
  have b16 := F16.binds (ps := ["_law_figure", "_law_wide"]) fun _ _ _ _ _ _ us hl => match us, hl with | [_, _], _ => rfl
  have F17 := fun_mk (st := s__law_worth) l17 c17 k17
  have b17 := F17.binds (ps := ["_law_signs"]) fun _ _ _ _ _ _ us hl => match us, hl with | [_], _ => rfl
  have F18 := fun_mk (st := s__law_bits) l18 c18 k18
  have b18 := F18.binds (ps := ["_law_bag_here", "_law_size"]) fun _ _ _ _ _ _ us hl => match us, hl with | [_, _], _ => rfl
  have F19 := fun_mk (st := s__law_strange) l19 c19 k19
  have b19 := F19.binds (ps := ["_law_bag_here"]) fun _ _ _ _ _ _ us hl => match us, hl with | [_], _ => rfl
  have F20 := fun_mk (st := s__law_scrambled) l20 c20 k20
  have b20 := F20.binds (ps := ["_law_signs", "_law_memory"]) fun _ _ _ _ _ _ us hl => match us, hl with | [_, _], _ => rfl
  have F21 := fun_mk (st := s__law_descrambled) l21 c21 k21
  have b21 := F21.binds (ps := ["_law_signs", "_law_memory"]) fun _ _ _ _ _ _ us hl => match us, hl with | [_, _], _ => rfl
  have F22 := fun_mk (st := s__law_spoilt) l22 c22 k22
  have b22 := F22.binds (ps := ["_law_bag_here", "_law_signs", "_law_at_here"]) fun _ _ _ _ _ _ us hl => match us, hl with | [_, _, _], _ => rfl
  have F23 := fun_mk (st := s_law) l23 c23 k23
  have b23 := F23.binds (ps := ["_law_script"]) fun _ _ _ _ _ _ us hl => match us, hl with | [_], _ => rfl
  have clsScrambler : Cls K cScrambler := ⟨r2Scrambler, r3Scrambler, r4Scrambler, r5Scrambler⟩
  have R_Scrambler : ScC K cScrambler := ⟨clsScrambler, r_Scrambler_cells⟩
  have clsDescrambler : Cls K cDescrambler := ⟨r2Descrambler, r3Descrambler, r4Descrambler, r5Descrambler⟩
  have R_Descrambler : ScC K cDescrambler := ⟨clsDescrambler, r_Descrambler_cells⟩
  have FD : FunD K "__init__" "LineError.__init__" (defArgs i_LineError) (defBody i_LineError) (defScope i_LineError) [.str "LineError", .str "refused"] [] fLE (PySem.W.fnOf "__init__" "LineError.__init__" (defArgs i_LineError) (defBody i_LineError) (defScope i_LineError) (.ref dLE) kVLE dcLE pmLE anLE cdLE ctLE) := ⟨⟨_, _, _, _, _, _, _, _, _, _, rfl, e7, e8, .inr ⟨by simp, dLE, _, _, _, rfl, e9, rfl, .cons ⟨_, rfl⟩ (.cons ⟨_, rfl⟩ .nil)⟩, .inl rfl⟩, e6⟩
  have bLE : Binds K (PySem.W.fnOf "__init__" "LineError.__init__" (defArgs i_LineError) (defBody i_LineError) (defScope i_LineError) (.ref dLE) kVLE dcLE pmLE anLE cdLE ctLE) ["self", "word", "text"] [] := by
    obtain ⟨ds, r, hb⟩ := FD.binds1 (ps := ["self", "word", "text"]) 3 2 (by simp) rfl (fun T kV doc pm an cdv ct us its hu hi => match us, its, hu, hi with | [_, _, _], [_, _], _, _ => ⟨_, rfl, rfl⟩)
    cases r
    exact hb
  have TL : ClsFn K mg "LineError" "__init__" cLE fLE := ⟨PySem.W.mg_of X G e1, e2, e3, e4, e5, rfl, e6⟩
  have ABadBit : AtC K mg "BadBit" xBadBit := ⟨PySem.W.mg_of X G gBadBit, ⟨gaBadBit, ggBadBit, exBadBit, hdBadBit⟩, noBadBit⟩
  have ABadByte : AtC K mg "BadByte" xBadByte := ⟨PySem.W.mg_of X G gBadByte, ⟨gaBadByte, ggBadByte, exBadByte, hdBadByte⟩, noBadByte⟩
  have ABadFrame : AtC K mg "BadFrame" xBadFrame := ⟨PySem.W.mg_of X G gBadFrame, ⟨gaBadFrame, ggBadFrame, exBadFrame, hdBadFrame⟩, noBadFrame⟩
  have ABadCode : AtC K mg "BadCode" xBadCode := ⟨PySem.W.mg_of X G gBadCode, ⟨gaBadCode, ggBadCode, exBadCode, hdBadCode⟩, noBadCode⟩
  have OBadBit : OexC K xBadBit := ⟨⟨_, _, _, _, _, _, _, _, _, _, _, _, _, _, _, o1BadBit, o2BadBit⟩, o3BadBit, exBadBit, o4BadBit, o5BadBit⟩
  have FIBadBit := fun_mk (st := i_BadBit) o8BadBit o9BadBit p1BadBit
  have bIBadBit := FIBadBit.binds (ps := ["self", "at"]) fun _ _ _ _ _ _ us hl => match us, hl with | [_, _], _ => rfl
  have OBadCount : OexC K xBadCount := ⟨⟨_, _, _, _, _, _, _, _, _, _, _, _, _, _, _, o1BadCount, o2BadCount⟩, o3BadCount, exBadCount, o4BadCount, o5BadCount⟩
  have FIBadCount := fun_mk (st := i_BadCount) o8BadCount o9BadCount p1BadCount
  have bIBadCount := FIBadCount.binds (ps := ["self"]) fun _ _ _ _ _ _ us hl => match us, hl with | [_], _ => rfl
  refine ⟨PySem.W.fnOf "law" "law" (defArgs s_law) (defBody s_law) (defScope s_law) .none kV23 dc23 pm23 an23 (.ref cL_) ct23, [(cL_, tP)], spLaw K tP, ?_, ?_, ?_, fun s v => .of_eq rfl, ?_, fun base _ _ hTB => ?_⟩
  · intro p hp
    rw [List.mem_singleton.mp hp]
    exact own cL_ tP _ _ _ _ _ _ l23 rfl rfl t1 t2
  · intro p hp
    rw [List.mem_singleton.mp hp]
    exact t4
  · intro p hp
    rw [List.mem_singleton.mp hp]
    exact PySem.W.codeHd_of_K X t3
  · intro H a ns _ _ hH hS
    exact ⟨a, ns, rfl, hS, hH _ (List.mem_singleton.mpr rfl), fun _ => rfl⟩
  have OKL := ok_i_LineError (P := l.prog) (w := w) (base := base) (mg := mg) (k := 0) FD (PySem.W.mg_none_of X G z_ValueError) e10
  have X_BadBit : XcOk l.prog w K mg base 2 "BadBit" xBadBit (spIni K xBadBit "BadBit" "at") := ⟨fIBadBit, _, _, OBadBit, o6BadBit, o7BadBit, ok_i_BadBit FIBadBit TL OKL bLE OBadBit p2BadBit noBadBit, bIBadBit, PySem.W.mg_of X G gBadBit⟩
  have X_BadCount : XcOk l.prog w K mg base 2 "BadCount" xBadCount (spIni0 K xBadCount "BadCount") := ⟨fIBadCount, _, _, OBadCount, o6BadCount, o7BadCount, ok_i_BadCount FIBadCount TL OKL bLE OBadCount p2BadCount, bIBadCount, PySem.W.mg_of X G gBadCount⟩
  have TB := hTB _ (List.mem_singleton.mpr rfl)
  have C_check_bits : CalX l.prog w K mg base 4 "check_bits" ["bits"] (spCheckX K xBadBit) := ⟨f0, _, ok_check_bits F0 (PySem.W.mg_none_of X G z_enumerate) (X_BadBit.mono (by decide)), PySem.W.mg_of X G a0, k0, b0⟩
  have C_number_bits : CalX l.prog w K mg base 4 "number_bits" ["number", "many"] (spNbX xBadCount) := ⟨f1, _, ok_number_bits F1 (PySem.W.mg_none_of X G z_range) (PySem.W.mg_of X G q_MOST_BITS) (X_BadCount.mono (by decide)), PySem.W.mg_of X G a1, k1, b1⟩
  have C_bits_number : CalX l.prog w K mg base 5 "bits_number" ["bits"] (spBnX K xBadBit xBadCount) := ⟨f2, _, ok_bits_number F2 (PySem.W.mg_none_of X G z_len) (PySem.W.mg_of X G q_MOST_BITS) (X_BadCount.mono (by decide)) (C_check_bits.mono (by decide)), PySem.W.mg_of X G a2, k2, b2⟩
  have C_pushed_through : CalX l.prog w K mg base 5 "pushed_through" ["cells", "bits", "keeps_out"] (spPT K xBadBit) := ⟨f3, _, ok_pushed_through F3 (PySem.W.mg_of X G q_FOURTH) (PySem.W.mg_of X G q_SEVENTH) (C_check_bits.mono (by decide)), PySem.W.mg_of X G a3, k3, b3⟩
  have O_4 : FnOk l.prog w K mg base (L2.CX l.prog w) 5 f4 _ ["self", "seed"] (spSi cScrambler xBadCount) := ok_Scrambler___init__ F4 R_Scrambler (PySem.W.mg_of X G q_MEMORY_BITS) (C_number_bits.mono (by decide))
  have C_nw_Scrambler : CalNW l.prog w K mg base 5 "Scrambler" cScrambler ["self", "seed"] ["seed"] (fun vs zs => vs ++ zs) (spSi cScrambler xBadCount) := by
    obtain ⟨g, hg⟩ := kbn_app (ps := ["self", "seed"]) F4 1 ["seed"] (by intro z; cases z) fun _ _ _ _ _ _ us ws h1 h2 => match us, ws, h1, h2 with | [_], [_], _, _ => rfl
    exact ⟨f4, _, g, ⟨r6Scrambler, a4, i4, r7Scrambler⟩, O_4, PySem.W.mg_of X G r1Scrambler, hg⟩
  have C_Scrambler_push : CalM (L2.CX l.prog w) l.prog w K mg base 6 cScrambler "push" ["self", "bits"] (spPush true cScrambler xBadBit) := ⟨f5, _, clsScrambler, ⟨a5, i5, k5⟩, ok_Scrambler_push F5 R_Scrambler (C_pushed_through.mono (by decide)), b5⟩
  have C_Scrambler_memory : CalM CX0 l.prog w K mg base 6 cScrambler "memory" ["self"] (spMem cScrambler) := ⟨f6, _, clsScrambler, ⟨a6, i6, k6⟩, ok_Scrambler_memory F6 R_Scrambler (C_bits_number.mono (by decide)), b6⟩
  have O_7 : FnOk l.prog w K mg base (L2.CX l.prog w) 5 f7 _ ["self", "seed"] (spSi cDescrambler xBadCount) := ok_Descrambler___init__ F7 R_Descrambler (PySem.W.mg_of X G q_MEMORY_BITS) (C_number_bits.mono (by decide))
  have C_nw_Descrambler : CalNW l.prog w K mg base 5 "Descrambler" cDescrambler ["self", "seed"] ["seed"] (fun vs zs => vs ++ zs) (spSi cDescrambler xBadCount) := by
    obtain ⟨g, hg⟩ := kbn_app (ps := ["self", "seed"]) F7 1 ["seed"] (by intro z; cases z) fun _ _ _ _ _ _ us ws h1 h2 => match us, ws, h1, h2 with | [_], [_], _, _ => rfl
    exact ⟨f7, _, g, ⟨r6Descrambler, a7, i7, r7Descrambler⟩, O_7, PySem.W.mg_of X G r1Descrambler, hg⟩
  have C_Descrambler_push : CalM (L2.CX l.prog w) l.prog w K mg base 6 cDescrambler "push" ["self", "bits"] (spPush false cDescrambler xBadBit) := ⟨f8, _, clsDescrambler, ⟨a8, i8, k8⟩, ok_Descrambler_push F8 R_Descrambler (C_pushed_through.mono (by decide)), b8⟩
  have C_Descrambler_memory : CalM CX0 l.prog w K mg base 6 cDescrambler "memory" ["self"] (spMem cDescrambler) := ⟨f9, _, clsDescrambler, ⟨a9, i9, k9⟩, ok_Descrambler_memory F9 R_Descrambler (C_bits_number.mono (by decide)), b9⟩
  have C__law_bag : Cal l.prog w K mg base 1 "_law_bag" ["_law_script"] (spBag K) := ⟨f10, _, ok__law_bag F10 (PySem.W.mg_none_of X G z_len) (PySem.W.mg_none_of X G z_list), PySem.W.mg_of X G a10, k10, b10⟩
  have C__law_pick : Cal l.prog w K mg base 1 "_law_pick" ["_law_bag_here", "_law_top"] (spPick) := ⟨f11, _, ok__law_pick F11 (PySem.W.mg_none_of X G z_len), PySem.W.mg_of X G a11, k11, b11⟩
  have C__law_pickW : Cal l.prog w K mg base 1 "_law_pick" ["_law_bag_here", "_law_top"] (spPickW) := ⟨f11, _, ok__law_pickW F11 (PySem.W.mg_none_of X G z_len), PySem.W.mg_of X G a11, k11, b11⟩
  have C__law_of : Cal l.prog w K mg base 2 "_law_of" ["_law_bag_here", "_law_some"] (spOf K) := ⟨f12, _, ok__law_of F12 (PySem.W.mg_none_of X G z_len) (C__law_pick.mono (by decide)), PySem.W.mg_of X G a12, k12, b12⟩
  have C__law_same : Cal l.prog w K mg base 2 "_law_same" ["_law_found", "_law_due"] (spSame K 2) := ⟨f13, _, ok__law_same F13 (PySem.W.mg_of X G a13) b13 (PySem.W.mg_none_of X G z_len) (PySem.W.mg_none_of X G z_all) (PySem.W.mg_none_of X G z_bool) (PySem.W.mg_none_of X G z_int) (PySem.W.mg_none_of X G z_isinstance) (PySem.W.mg_none_of X G z_list) (PySem.W.mg_none_of X G z_range) (PySem.W.mg_none_of X G z_str) (PySem.W.mg_none_of X G z_tuple) 2, PySem.W.mg_of X G a13, k13, b13⟩
  have C__law_written : Cal l.prog w K mg base 1 "_law_written" ["_law_figure", "_law_wide"] (spWritten) := ⟨f16, _, ok__law_written F16 (PySem.W.mg_none_of X G z_range), PySem.W.mg_of X G a16, k16, b16⟩
  have C__law_worth : Cal l.prog w K mg base 1 "_law_worth" ["_law_signs"] (spWorth K) := ⟨f17, _, ok__law_worth F17 , PySem.W.mg_of X G a17, k17, b17⟩
  have C__law_bits : Cal l.prog w K mg base 2 "_law_bits" ["_law_bag_here", "_law_size"] (spBits) := ⟨f18, _, ok__law_bits F18 (PySem.W.mg_none_of X G z_range) (C__law_pick.mono (by decide)), PySem.W.mg_of X G a18, k18, b18⟩
  have C__law_strange : Cal l.prog w K mg base 3 "_law_strange" ["_law_bag_here"] (spStrange) := ⟨f19, _, ok__law_strange F19 (C__law_of.mono (by decide)), PySem.W.mg_of X G a19, k19, b19⟩
  have C__law_scrambled : Cal l.prog w K mg base 1 "_law_scrambled" ["_law_signs", "_law_memory"] (spLsc true) := ⟨f20, _, ok__law_scrambled F20 , PySem.W.mg_of X G a20, k20, b20⟩
  have C__law_descrambled : Cal l.prog w K mg base 1 "_law_descrambled" ["_law_signs", "_law_memory"] (spLsc false) := ⟨f21, _, ok__law_descrambled F21 , PySem.W.mg_of X G a21, k21, b21⟩
  have C__law_spoilt : Cal l.prog w K mg base 4 "_law_spoilt" ["_law_bag_here", "_law_signs", "_law_at_here"] (spSpoilt K) := ⟨f22, _, ok__law_spoilt F22 (C__law_pick.mono (by decide)) (C__law_strange.mono (by decide)), PySem.W.mg_of X G a22, k22, b22⟩
  exact ok_law l23 c23 l15 c15 k15 (PySem.W.mg_of X G a15) b15 ABadBit ABadByte ABadFrame ABadCode (PySem.W.mg_of X G e1) mBadBitBadBit mBadByteBadBit mBadByteBadByte mBadFrameBadBit mBadFrameBadByte mBadFrameBadFrame mBadCodeBadBit mBadCodeBadByte mBadCodeBadFrame mBadCodeBadCode TB l14 c14 k14 (PySem.W.mg_of X G a14) b14 ⟨gaBadCount, ggBadCount, exBadCount, hdBadCount⟩ p2BadCount (PySem.W.mg_of X G gMissing) mBLine (PySem.W.mg_none_of X G z_len) (PySem.W.mg_none_of X G z_range) (C_nw_Scrambler.mono (by decide)) (C_nw_Descrambler.mono (by decide)) (C_nw_Scrambler.mono (by decide)) (C_nw_Descrambler.mono (by decide)) (C_Scrambler_push.mono (by decide)) (C_Descrambler_push.mono (by decide)) (C_Scrambler_push.mono (by decide)) (C_Descrambler_push.mono (by decide)) (C_Scrambler_memory.mono (by decide)) (C_Descrambler_memory.mono (by decide)) (C__law_bag.mono (by decide)) (C__law_bits.mono (by decide)) (C__law_pickW.mono (by decide)) (C__law_of.mono (by decide)) (C__law_written.mono (by decide)) (C__law_worth.mono (by decide)) (C__law_same.mono (by decide)) (C__law_spoilt.mono (by decide)) (C__law_scrambled.mono (by decide)) (C__law_descrambled.mono (by decide))
end WB
open PySem PySem.W PyProof.Rows
set_option maxRecDepth 100000 in
set_option maxHeartbeats 0 in
theorem PySem.Challenge.cw_warbleline_k15_scramblers_refused_holds : PySem.Challenge.rw_warbleline_k15_scramblers_refused.Holds := by
  w_on; o_law; k_head; (case hw => w_witness2)
  k_fill
  refine LamX.walk_ofOwn (l := PySem.Challenge.rw_warbleline_k15_scramblers_refused) (n := 63) (k := 9) (x := "_law_script") (CX := fun _ => L2.CX0) rfl (by decide) rfl ⟨rfl, by decide, by decide⟩ (by decide +kernel) (fun w h Y => PySem.W.km_in_of Y) ?F (fun _ _ _ _ _ h => h)
  case F =>
    intro w mg fa h Y KX G hmg own
    refine' WB.all_mk KX G hmg own ?r1Scrambler ?r2Scrambler ?r3Scrambler ?r4Scrambler ?r5Scrambler ?r6Scrambler ?r7Scrambler ?r_Scrambler_cells ?r1Descrambler ?r2Descrambler ?r3Descrambler ?r4Descrambler ?r5Descrambler ?r6Descrambler ?r7Descrambler ?r_Descrambler_cells ?a0 ?l0 ?c0 ?k0 ?a1 ?l1 ?c1 ?k1 ?a2 ?l2 ?c2 ?k2 ?a3 ?l3 ?c3 ?k3 ?a4 ?i4 ?l4 ?v4 ?c4 ?k4 ?a5 ?i5 ?l5 ?c5 ?k5 ?a6 ?i6 ?l6 ?c6 ?k6 ?a7 ?i7 ?l7 ?v7 ?c7 ?k7 ?a8 ?i8 ?l8 ?c8 ?k8 ?a9 ?i9 ?l9 ?c9 ?k9 ?a10 ?l10 ?c10 ?k10 ?a11 ?l11 ?c11 ?k11 ?a12 ?l12 ?c12 ?k12 ?a13 ?l13 ?c13 ?k13 ?a14 ?l14 ?c14 ?k14 ?a15 ?l15 ?c15 ?k15 ?a16 ?l16 ?c16 ?k16 ?a17 ?l17 ?c17 ?k17 ?a18 ?l18 ?c18 ?k18 ?a19 ?l19 ?c19 ?k19 ?a20 ?l20 ?c20 ?k20 ?a21 ?l21 ?c21 ?k21 ?a22 ?l22 ?c22 ?k22 ?a23 ?l23 ?c23 ?k23 ?t1 ?t2 ?t3 ?t4 ?e1 ?e2 ?e3 ?e4 ?e5 ?e6 ?e7 ?e8 ?e9 ?e10 ?z_ValueError ?gBadBit ?gaBadBit ?ggBadBit ?exBadBit ?hdBadBit ?noBadBit ?gBadByte ?gaBadByte ?ggBadByte ?exBadByte ?hdBadByte ?noBadByte ?gBadFrame ?gaBadFrame ?ggBadFrame ?exBadFrame ?hdBadFrame ?noBadFrame ?gBadCode ?gaBadCode ?ggBadCode ?exBadCode ?hdBadCode ?noBadCode ?mBadBitBadBit ?mBadByteBadBit ?mBadByteBadByte ?mBadFrameBadBit ?mBadFrameBadByte ?mBadFrameBadFrame ?mBadCodeBadBit ?mBadCodeBadByte ?mBadCodeBadFrame ?mBadCodeBadCode ?gBadCount ?gaBadCount ?ggBadCount ?exBadCount ?hdBadCount ?gMissing ?mBLine ?o1BadBit ?o2BadBit ?o3BadBit ?o4BadBit ?o5BadBit ?o6BadBit ?o7BadBit ?o8BadBit ?o9BadBit ?p1BadBit ?p2BadBit ?o1BadCount ?o2BadCount ?o3BadCount ?o4BadCount ?o5BadCount ?o6BadCount ?o7BadCount ?o8BadCount ?o9BadCount ?p1BadCount ?p2BadCount ?z_enumerate ?z_range ?z_len ?z_list ?z_all ?z_bool ?z_int ?z_isinstance ?z_str ?z_tuple ?q_MOST_BITS ?q_MEMORY_BITS ?q_FOURTH ?q_SEVENTH
    (case r1Scrambler => k_is)
    (case r2Scrambler => k_is)
    (case r3Scrambler => k_is)
    (case r4Scrambler => k_is)
    (case r5Scrambler => k_is)
    (case r6Scrambler => k_is)
    (case r7Scrambler => k_is)
    (case r_Scrambler_cells => k_is)
    (case r1Descrambler => k_is)
    (case r2Descrambler => k_is)
    (case r3Descrambler => k_is)
    (case r4Descrambler => k_is)
    (case r5Descrambler => k_is)
    (case r6Descrambler => k_is)
    (case r7Descrambler => k_is)
    (case r_Descrambler_cells => k_is)
    (case a0 => k_is)
    (case l0 => k_is)
    (case c0 => k_is)
    (case k0 => k_is)
    (case a1 => k_is)
    (case l1 => k_is)
    (case c1 => k_is)
    (case k1 => k_is)
    (case a2 => k_is)
    (case l2 => k_is)
    (case c2 => k_is)
    (case k2 => k_is)
    (case a3 => k_is)
    (case l3 => k_is)
    (case c3 => k_is)
    (case k3 => k_is)
    (case a4 => k_is)
    (case i4 => k_is)
    (case l4 => k_is)
    (case v4 => k_is)
    (case c4 => k_is)
    (case k4 => k_is)
    (case a5 => k_is)
    (case i5 => k_is)
    (case l5 => k_is)
    (case c5 => k_is)
    (case k5 => k_is)
    (case a6 => k_is)
    (case i6 => k_is)
    (case l6 => k_is)
    (case c6 => k_is)
    (case k6 => k_is)
    (case a7 => k_is)
    (case i7 => k_is)
    (case l7 => k_is)
    (case v7 => k_is)
    (case c7 => k_is)
    (case k7 => k_is)
    (case a8 => k_is)
    (case i8 => k_is)
    (case l8 => k_is)
    (case c8 => k_is)
    (case k8 => k_is)
    (case a9 => k_is)
    (case i9 => k_is)
    (case l9 => k_is)
    (case c9 => k_is)
    (case k9 => k_is)
    (case a10 => k_is)
    (case l10 => k_is)
    (case c10 => k_is)
    (case k10 => k_is)
    (case a11 => k_is)
    (case l11 => k_is)
    (case c11 => k_is)
    (case k11 => k_is)
    (case a12 => k_is)
    (case l12 => k_is)
    (case c12 => k_is)
    (case k12 => k_is)
    (case a13 => k_is)
    (case l13 => k_is)
    (case c13 => k_is)
    (case k13 => k_is)
    (case a14 => k_is)
    (case l14 => k_is)
    (case c14 => k_is)
    (case k14 => k_is)
    (case a15 => k_is)
    (case l15 => k_is)
    (case c15 => k_is)
    (case k15 => k_is)
    (case a16 => k_is)
    (case l16 => k_is)
    (case c16 => k_is)
    (case k16 => k_is)
    (case a17 => k_is)
    (case l17 => k_is)
    (case c17 => k_is)
    (case k17 => k_is)
    (case a18 => k_is)
    (case l18 => k_is)
    (case c18 => k_is)
    (case k18 => k_is)
    (case a19 => k_is)
    (case l19 => k_is)
    (case c19 => k_is)
    (case k19 => k_is)
    (case a20 => k_is)
    (case l20 => k_is)
    (case c20 => k_is)
    (case k20 => k_is)
    (case a21 => k_is)
    (case l21 => k_is)
    (case c21 => k_is)
    (case k21 => k_is)
    (case a22 => k_is)
    (case l22 => k_is)
    (case c22 => k_is)
    (case k22 => k_is)
    (case a23 => k_is)
    (case l23 => k_is)
    (case c23 => k_is)
    (case k23 => k_is)
    (case t1 => k_is)
    (case t2 => first | rfl | k_is)
    (case t3 => kernel_rfl)
    (case t4 => kernel_rfl)
    (case e1 => k_is)
    (case e2 => k_is)
    (case e3 => k_is)
    (case e4 => k_is)
    (case e5 => k_is)
    (case e6 => k_is)
    (case e7 => k_is)
    (case e8 => k_is)
    (case e9 => k_is)
    (case e10 => k_is)
    (case z_ValueError => k_is)
    (case gBadBit => k_is)
    (case gaBadBit => k_is)
    (case ggBadBit => k_is)
    (case exBadBit => k_is)
    (case hdBadBit => k_is)
    (case noBadBit => k_is)
    (case gBadByte => k_is)
    (case gaBadByte => k_is)
    (case ggBadByte => k_is)
    (case exBadByte => k_is)
    (case hdBadByte => k_is)
    (case noBadByte => k_is)
    (case gBadFrame => k_is)
    (case gaBadFrame => k_is)
    (case ggBadFrame => k_is)
    (case exBadFrame => k_is)
    (case hdBadFrame => k_is)
    (case noBadFrame => k_is)
    (case gBadCode => k_is)
    (case gaBadCode => k_is)
    (case ggBadCode => k_is)
    (case exBadCode => k_is)
    (case hdBadCode => k_is)
    (case noBadCode => k_is)
    (case mBadBitBadBit => kernel_rfl)
    (case mBadByteBadBit => kernel_rfl)
    (case mBadByteBadByte => kernel_rfl)
    (case mBadFrameBadBit => kernel_rfl)
    (case mBadFrameBadByte => kernel_rfl)
    (case mBadFrameBadFrame => kernel_rfl)
    (case mBadCodeBadBit => kernel_rfl)
    (case mBadCodeBadByte => kernel_rfl)
    (case mBadCodeBadFrame => kernel_rfl)
    (case mBadCodeBadCode => kernel_rfl)
    (case gBadCount => k_is)
    (case gaBadCount => k_is)
    (case ggBadCount => k_is)
    (case exBadCount => k_is)
    (case hdBadCount => k_is)
    (case gMissing => k_is)
    (case mBLine => kernel_rfl)
    (case o1BadBit => k_is)
    (case o2BadBit => decide +kernel)
    (case o3BadBit => k_is)
    (case o4BadBit => k_is)
    (case o5BadBit => k_is)
    (case o6BadBit => k_is)
    (case o7BadBit => k_is)
    (case o8BadBit => k_is)
    (case o9BadBit => k_is)
    (case p1BadBit => k_is)
    (case p2BadBit => k_is)
    (case o1BadCount => k_is)
    (case o2BadCount => decide +kernel)
    (case o3BadCount => k_is)
    (case o4BadCount => k_is)
    (case o5BadCount => k_is)
    (case o6BadCount => k_is)
    (case o7BadCount => k_is)
    (case o8BadCount => k_is)
    (case o9BadCount => k_is)
    (case p1BadCount => k_is)
    (case p2BadCount => k_is)
    (case z_enumerate => k_is)
    (case z_range => k_is)
    (case z_len => k_is)
    (case z_list => k_is)
    (case z_all => k_is)
    (case z_bool => k_is)
    (case z_int => k_is)
    (case z_isinstance => k_is)
    (case z_str => k_is)
    (case z_tuple => k_is)
    (case q_MOST_BITS => k_is)
    (case q_MEMORY_BITS => k_is)
    (case q_FOURTH => k_is)
    (case q_SEVENTH => k_is)
