import PyProof.Rows.All
import Wide.All
import OpenK.AllK
import Wide.FinOn
import HandS.Base
import HandS.Call
import HandS.List
import HandS.Comp
import HandS.Ends
import HandS.Iter
import HandS.Text
import HandS.Words
import HandS.WordsList
import HandS.IsInst
import HandS.More
import HandS.Wide
import HandS.Style
import HandS.EndBits
import HandS.Exc
import HandS.ExcOwn
import HandS.ExcInit
import HandS.ExcField
import HandS.TryOnly
import HandS.WordsExc
import HandS.FStr
import HandS.Defaults
import HandS.Lambda
import HandS.EndTab
import HandS.Dict
import HandS.Conv
import HandS.Zip
import HandS.EndOwn
import PySem.Challenge.RW_warbleline_k09_whole_streams_of_frames
set_option Elab.async false
set_option linter.all false
set_option maxRecDepth 100000
set_option maxHeartbeats 2000000
namespace WB
open PySem PySem.Spec PyProof.Rows L2
/-! ### a def that may be called by its name, letting nothing out -/
def Cal (P : Program) (w : World) (K : PySem.W.Frag) (mg : Str → Option Value) (base : Heap) (k : Nat) (nm : Str) (ps : List Str) (sp : Sp) : Prop :=
  ∃ (f : Addr) (fd : FuncData), FnOk P w K mg base CX0 k f fd ps sp ∧ mg nm = some (.ref f) ∧ PySem.W.keepIn K (.ref f) = true ∧ Binds K fd ps []
theorem Cal.mono {P : Program} {w : World} {K : PySem.W.Frag} {mg : Str → Option Value} {base : Heap} {j k : Nat} {nm : Str} {ps : List Str} {sp : Sp} (c : Cal P w K mg base j nm ps sp) (h : j ≤ k) : Cal P w K mg base k nm ps sp := by
  obtain ⟨f, fd, a, b, d, e⟩ := c
  exact ⟨f, fd, a.mono h, b, d, e⟩
section
variable {X : Cx} {k : Nat} {nm : Str} {ps : List Str} {sp : Sp} {e : Expr} {es : List Expr} {t : TA} {p pos : Pos}
theorem pe_callC (c : Cal X.prog X.w X.K X.mg X.base k nm ps sp) (hr : Room k X.A) (hg : Gl X nm) (ha : PA X (e :: es) t) (hdb : (nm == ("__debug__" : Str)) = false := by decide)
    (he : starEach (e :: es) X.env = (false, eval e X.env) :: starEach es X.env := by rfl) (hpl : (backTo pos (starEach es X.env)).any (·.1) = false := by rfl) :
    PE X (.Call (.Name nm p) (e :: es) [] pos) (tCall sp [] E0 t) := by
  obtain ⟨f, fd, a, b, d, g⟩ := c
  exact pe_call a hr hg b d g .nil pass0 ha hdb he hpl
theorem pe_callC0 (c : Cal X.prog X.w X.K X.mg X.base k nm ps sp) (hr : Room k X.A) (hg : Gl X nm) (hdb : (nm == ("__debug__" : Str)) = false := by decide) :
    PE X (.Call (.Name nm p) [] [] pos) (tCall sp [] E0 tNil) := by
  obtain ⟨f, fd, a, b, d, g⟩ := c
  exact pe_call0 a hr hg b d g .nil pass0 hdb
end
/-! ### rules with the written part by its name (a comprehension's block has the same one) -/
section
variable {X : Cx} (K : PySem.W.Frag)
theorem ix_listK (h : X.K = K) : IxR X (rIxL K) := by subst h; exact ix_list
theorem ix_tupK (h : X.K = K) : IxR X (rIxT K) := by subst h; exact ix_tup
theorem ix_seqK (h : X.K = K) : IxR X (rIx K) := by subst h; exact ix_seq
def rLenK (K : PySem.W.Frag) : List V → Hp → VK → Prop := fun xs H Q => ∃ p ys, xs = [.ref p] ∧ (SqL K H p ys ∨ SqT K H p ys) ∧ Q (.int ys.length) H
theorem call_lenK (h : X.K = K) : CallR X (.builtin "len") (rLenK K) := by subst h; exact call_len_seq
def rListK (K : PySem.W.Frag) : List V → Hp → VK → Prop := fun xs H Q => ∃ p ys, xs = [.ref p] ∧ (SqL K H p ys ∨ SqT K H p ys) ∧ ∀ l, H l = none → Q (.ref l) (upd H l (.lst ys))
theorem call_listK (h : X.K = K) : CallR X (.type "list") (rListK K) := by subst h; exact call_list_of
theorem call_isiK1 (h : X.K = K) : CallR X (.builtin "isinstance") (rIsi K) := by subst h; exact call_isi
theorem call_isiTK (h : X.K = K) : CallR X (.builtin "isinstance") (rIsiT K) := by subst h; exact call_isiT
theorem op_inK (h : X.K = K) : OpR X (compareOp .In) (rIn K false) := by subst h; exact op_in_seq
theorem op_notInK (h : X.K = K) : OpR X (compareOp .NotIn) (rIn K true) := by subst h; exact op_notIn_seq
theorem op_eqDK (h : X.K = K) (hu : X.A.units + 64 < cLine) : OpR X (compareOp .Eq) (rEqD K) := by subst h; exact op_eqD hu
theorem op_neDK (h : X.K = K) (hu : X.A.units + 64 < cLine) : OpR X (compareOp .NotEq) (rNeD K) := by subst h; exact op_neD hu
theorem sl_listK (h : X.K = K) : SlR X (rSlL K) := by subst h; exact sl_list
theorem cr_allK (h : X.K = K) (hc : X.calm = true) : CallR X (.builtin "all") (rAll K) := by subst h; exact cr_all hc
variable {o e : Expr} {es : List Expr} {to : TE} {t : TA} {name : Str} {apos cpos : Pos} {T id : String} {r : V → List V → Hp → VK → Prop}
theorem pe_bm0K (h : X.K = K) (pa : PlainAttrs T) (slot : Slot T name id) (hty : typeOf (.builtin id) = pure (.type "method_descriptor")) (hm : MtR X id r) (ho : PE X o to)
    (hbase : attributeBase o name X.env (eval o X.env) = eval o X.env := by rfl) (hline : (apos.endLine == cpos.line) = true := by rfl) : PE X (.Call (.Attribute o name apos) [] [] cpos) (tBM0 K T r to) := by
  subst h; exact pe_bm0 pa slot hty hm ho hbase hline
theorem pe_bmK (h : X.K = K) (pa : PlainAttrs T) (slot : Slot T name id) (hty : typeOf (.builtin id) = pure (.type "method_descriptor")) (hm : MtR X id r) (ho : PE X o to) (ha : PA X (e :: es) t)
    (hbase : attributeBase o name X.env (eval o X.env) = eval o X.env := by rfl)
    (hfew : ((backTo cpos (starEach (e :: es) X.env)).all (fun x => !x.1) && (backToKw cpos (keywordEach [] X.env)).all (fun x => x.1.isSome)
      && decide ((e :: es).length + ([] : List Keyword).length + (if ([] : List Keyword).isEmpty then 0 else 1) < 30)) = true := by rfl)
    (hline : (apos.endLine == cpos.line) = true := by rfl) (hs : starEach (e :: es) X.env = (false, eval e X.env) :: starEach es X.env := by rfl) (hplain : (backTo cpos (starEach es X.env)).any (·.1) = false := by rfl) :
    PE X (.Call (.Attribute o name apos) (e :: es) [] cpos) (tBM K T r to t) := by
  subst h; exact pe_bm pa slot hty hm ho ha hbase hfew hline hs hplain
variable {tg l : Expr} {tl : TE}
theorem pi_listK (h : X.K = K) (hl : PE X l tl) : PI X tg l (iList K tl) := by subst h; exact pi_list hl
theorem pi_tupK (h : X.K = K) (hl : PE X l tl) : PI X tg l (iTup K tl) := by subst h; exact pi_tup hl
end
/-- behind a statement: what its ways have in common -/
theorem seq_by {t u : TS} {D : Ends} {σ : L2.St} {H : Hp} (J : L2.St → Hp → Prop) (h2 : ∀ σ1 H1, J σ1 H1 → u D σ1 H1) (h1 : (∀ σ1 H1, J σ1 H1 → u D σ1 H1) → t { D with nx := u D } σ H) : tSeq t u D σ H := h1 h2
theorem if_by {c : TT} {t1 t2 u : TS} {D : Ends} {σ : L2.St} {H : Hp} (J : L2.St → Hp → Prop) (h2 : ∀ σ1 H1, J σ1 H1 → u D σ1 H1) (h1 : (∀ σ1 H1, J σ1 H1 → u D σ1 H1) → tIfS c t1 t2 { D with nx := u D } σ H) : tSeq (tIfS c t1 t2) u D σ H := h1 h2
theorem asg_by {te : TE} {i : Nat} {u : TS} {D : Ends} {σ : L2.St} {H : Hp} (J : V → Hp → Prop) (h2 : ∀ v H1, J v H1 → u D (σ.set i (some v)) H1) (h1 : (∀ v H1, J v H1 → u D (σ.set i (some v)) H1) → te σ H (fun x H1 => gName i x σ H1 (u D))) : tSeq (tAsg te (gName i)) u D σ H := h1 h2
theorem name_by {i : Nat} {v : V} {σ : L2.St} {H : Hp} {Q : L2.St → Hp → Prop} (h : Q (σ.set i (some v)) H) : gName i v σ H Q := h
/-! ### heaps -/
theorem same_upd {H : Hp} {p : Addr} {o : HO} (h : H p = none) : Same H (upd H p o) := fun b x e => by
  rw [upd_ne (ne_of_none e h)]
  exact e
/-- an object that was not there ahead may change -/
theorem same_mut {H H' : Hp} {p : Addr} {o : HO} (e : Same H H') (h : H p = none) : Same H (upd H' p o) := fun b x q => by
  rw [upd_ne (ne_of_none q h)]
  exact e b x q
/-- all but what stands at b stays -/
def Mv (b : Addr) (H H' : Hp) : Prop := ∀ a o, a ≠ b → H a = some o → H' a = some o
theorem Mv.refl (b : Addr) (H : Hp) : Mv b H H := fun _ _ _ h => h
theorem Mv.trans {b : Addr} {H H1 H2 : Hp} (x : Mv b H H1) (y : Mv b H1 H2) : Mv b H H2 := fun a o n h => y a o n (x a o n h)
theorem Mv.of {b : Addr} {H H' : Hp} (s : Same H H') : Mv b H H' := fun a o _ h => s a o h
theorem Mv.upd {b : Addr} {H H' : Hp} {o : HO} (x : Mv b H H') : Mv b H (upd H' b o) := fun a u n h => by
  rw [upd_ne n]
  exact x a u n h
theorem Mv.none {b p : Addr} {H H' : Hp} (x : Mv b H H') (n : p ≠ b) (h : H' p = none) : H p = none := by
  cases q : H p with
  | none => rfl
  | some o =>
    rw [x p o n q] at h
    cases h
/-! ### the bag: b.1 the bag, b.2 its numbers -/
def bagL (s : Addr) (i r x c : Int) : List V := [.ref s, .int i, .int r, .int x, .int c]
def Bag (b : Addr × Addr) (H : Hp) : Prop := ∃ (ns : List Int) (i r x c : Int), H b.1 = some (.lst (bagL b.2 i r x c)) ∧ H b.2 = some (.lst (ns.map V.int)) ∧ b.2 ≠ b.1 ∧ 0 ≤ i ∧ 0 ≤ x ∧ x < 2147483648
theorem Bag.same {b : Addr × Addr} {H H' : Hp} (g : Bag b H) (s : Same H H') : Bag b H' := by
  obtain ⟨ns, i, r, x, c, h1, h2, h3, h4, h5, h6⟩ := g
  exact ⟨ns, i, r, x, c, s _ _ h1, s _ _ h2, h3, h4, h5, h6⟩
theorem Bag.ne {b : Addr × Addr} {p : Addr} {H : Hp} (g : Bag b H) (h : H p = none) : p ≠ b.1 := by
  obtain ⟨ns, i, r, x, c, h1, _⟩ := g
  exact fun z => by rw [z, h1] at h; cases h
theorem Bag.ne2 {b : Addr × Addr} {p : Addr} {H : Hp} (g : Bag b H) (h : H p = none) : p ≠ b.2 := by
  obtain ⟨ns, i, r, x, c, _, h1, _⟩ := g
  exact fun z => by rw [z, h1] at h; cases h
theorem Bag.upd {b : Addr × Addr} {p : Addr} {o : HO} {H : Hp} (g : Bag b H) (h1 : p ≠ b.1) (h2 : p ≠ b.2) : Bag b (L2.upd H p o) := by
  obtain ⟨ns, i, r, x, c, e1, e2, h3⟩ := g
  exact ⟨ns, i, r, x, c, by rw [upd_ne h1.symm]; exact e1, by rw [upd_ne h2.symm]; exact e2, h3⟩
/-- a draw: its bag, its bound -/
def spPick : Sp := fun vs H Q _ => ∃ (b : Addr × Addr) (top : Int), vs = [.ref b.1, .int top] ∧ Bag b H ∧ 0 < top ∧ top < 1073741824 ∧ ∀ (H' : Hp) (d : Int), Mv b.1 H H' → Bag b H' → 0 ≤ d → d < top → Q (.int d) H'
/-- the bag of a script -/
def spBag (K : PySem.W.Frag) : Sp := fun vs H Q _ => ∃ (a : Addr) (ns : List Int), vs = [.ref a] ∧ SqL K H a (ns.map V.int) ∧ ∀ (H' : Hp) (b : Addr × Addr), Same H H' → H b.1 = none → Bag b H' → Q (.ref b.1) H'
/-- one of the list's things -/
def spOf (K : PySem.W.Frag) : Sp := fun vs H Q _ => ∃ (b : Addr × Addr) (l : Addr) (xs : List V), vs = [.ref b.1, .ref l] ∧ Bag b H ∧ l ≠ b.1 ∧ H l = some (.lst xs) ∧ 0 < xs.length ∧ xs.length < 1000 ∧ ∀ (H' : Hp) (v : V), Mv b.1 H H' → Bag b H' → v ∈ xs → Q v H'
section
variable {K : PySem.W.Frag}
def tyN : PyData → String
  | .none => "NoneType"
  | .bool _ => "bool"
  | .int _ => "int"
  | .str _ => "str"
  | .list _ => "list"
  | .tuple _ => "tuple"
  | .dict _ => "dict"
theorem ty_dp {H : Hp} {x : V} {d : PyData} (h : Dp K H x d) : TyX K H x (.type (tyN d)) := by
  cases h with
  | non => exact .base .non
  | bl b => exact .base (.bl b)
  | int i => exact .base (.int i)
  | str x => exact .base (.str x)
  | lst hs _ =>
    rcases hs with (h | ⟨o, h⟩) | ⟨o, its, n, h1, h2, _⟩
    · exact .base (.lst h)
    · exact .base (.frz h)
    · exact .kList h1 h2
  | tup hs _ =>
    rcases hs with (h | ⟨o, h⟩) | ⟨o, its, n, h1, h2, _⟩
    · exact .base (.tup h)
    · exact .fTuple h
    · exact .kTuple h1 h2
theorem same_t {H H' : Hp} {a : Addr} {xs : List V} (e : Same H H') (h : SqT K H a xs) : SqT K H' a xs := by
  rcases h with (h | ⟨o, h⟩) | h
  · exact .inl (.inl (e _ _ h))
  · exact .inl (.inr ⟨o, e _ _ h⟩)
  · exact .inr h
mutual
theorem dp_same {H H' : Hp} (e : Same H H') : ∀ {d : PyData} {x : V}, Dp K H x d → Dp K H' x d
  | _, _, .non => .non
  | _, _, .bl b => .bl b
  | _, _, .int i => .int i
  | _, _, .str s => .str s
  | _, _, .lst hs ha => .lst (e.seq hs) (dpa_same e ha)
  | _, _, .tup hs ha => .tup (same_t e hs) (dpa_same e ha)
theorem dpa_same {H H' : Hp} (e : Same H H') : ∀ {ds : List PyData} {xs : List V}, DpAll K H xs ds → DpAll K H' xs ds
  | _, _, .nil => .nil
  | _, _, .cons h t => .cons (dp_same e h) (dpa_same e t)
end
theorem dpa_len {H : Hp} : ∀ {xs : List V} {ds : List PyData}, DpAll K H xs ds → xs.length = ds.length
  | _, _, .nil => rfl
  | _, _, .cons _ t => congrArg (· + 1) (dpa_len t)
theorem dpa_get {H : Hp} : ∀ {xs : List V} {ds : List PyData} {i : Nat} {d : PyData}, DpAll K H xs ds → ds[i]? = some d → ∃ x, xs[i]? = some x ∧ Dp K H x d
  | _, _, _, _, .nil, e => by simp at e
  | _, _, 0, _, .cons h _, e => by simp at e; subst e; exact ⟨_, rfl, h⟩
  | _, _, i + 1, d, .cons _ t, e => by
    obtain ⟨x, h1, h2⟩ := dpa_get (i := i) (d := d) t (by simpa using e)
    exact ⟨x, by simpa using h1, h2⟩
/-- data of at most so many levels -/
def Dn : Nat → PyData → Prop
  | 0, _ => False
  | n + 1, d => (∃ b, d = .bool b) ∨ (∃ i, d = .int i) ∨ (∃ s, d = .str s) ∨ d = .none ∨ ∃ ds, (d = .list ds ∨ d = .tuple ds) ∧ ds.length ≤ 100000 ∧ ∀ e ∈ ds, Dn n e
def spSame (K : PySem.W.Frag) (n : Nat) : Sp := fun vs H Q _ => ∃ (x y : V) (d : PyData), vs = [x, y] ∧ Dp K H x d ∧ Dp K H y d ∧ Dn n d ∧ SeqAt.shaped d = true ∧ ∀ H', Same H H' → Q (.bl true) H'
theorem tYes_by {σ : L2.St} {H : Hp} {Q : Bool → Hp → Prop} (h : Q true H) : tYes σ H Q := h
theorem canLay_mem : ∀ {ds : List PyData} {e : PyData}, e ∈ ds → PyData.canLayAll0 ds = true → PyData.canLay0 e = true
  | d :: ds, e, hm, h => by
    have h : (PyData.canLay0 d && PyData.canLayAll0 ds) = true := h
    rw [Bool.and_eq_true] at h
    rcases List.mem_cons.mp hm with rfl | hm
    · exact h.1
    · exact canLay_mem hm h.2
theorem depth_mem : ∀ {ds : List PyData} {e : PyData}, e ∈ ds → PyData.depth e ≤ PyData.depthAll ds
  | d :: ds, e, hm => by
    show _ ≤ max (PyData.depth d) (PyData.depthAll ds)
    rcases List.mem_cons.mp hm with rfl | hm
    · exact Nat.le_max_left _ _
    · exact Nat.le_trans (depth_mem hm) (Nat.le_max_right _ _)
theorem shaped_mem {ds : List PyData} {e : PyData} (hm : e ∈ ds) (h : SeqAt.shaped (.list ds) = true ∨ SeqAt.shaped (.tuple ds) = true) : SeqAt.shaped e = true := by
  have k : PyData.canLayAll0 ds = true ∧ PyData.depthAll ds + 1 ≤ 64 := by
    rcases h with h | h
    · exact ⟨SeqAt.canLay_of_shaped h, SeqAt.depth_of_shaped h⟩
    · exact ⟨SeqAt.canLay_of_shaped h, SeqAt.depth_of_shaped h⟩
  unfold SeqAt.shaped
  rw [Bool.and_eq_true]
  exact ⟨canLay_mem hm k.1, decide_eq_true (by have := depth_mem hm; omega)⟩
theorem ifT {A B : Prop} {b : Bool} (e : b = true) (h : A) : if b = true then A else B := by rw [if_pos e]; exact h
theorem ifF {A B : Prop} {b : Bool} (e : b = false) (h : B) : if b = true then A else B := by rw [e]; exact iteF h
end
end WB
namespace WB
open PySem PySem.Spec PyProof.Rows L2
section
variable {K : PySem.W.Frag}
theorem for_enumK {a : Addr} {xs : List V} {g : TG} {tb : TS} {D : Ends} {σ : L2.St} {H : Hp} (Pv : Nat → L2.St → Hp → Prop) (h0 : Pv 0 σ H) (hl : ∀ i σ H, i ≤ xs.length → Pv i σ H → SqL K H a xs)
    (hs : ∀ i x T σ H, xs[i]? = some x → Pv i σ H → H T = none → g (.ref T) σ (upd H T (.tup [.int (i : Nat), x])) fun σ2 H2 => tb { D with nx := Pv (i + 1), ct := Pv (i + 1), bk := D.nx } σ2 H2) (hd : ∀ σ H, Pv xs.length σ H → D.nx σ H) :
    ∃ W : Nat → Nat → L2.St → Hp → Prop, (∃ m, W 0 m σ H) ∧ ∀ i m σ H, W i m σ H →
      ((Ite K a).stop i H ∧ D.nx σ H) ∨ ((Ite K a).go i H ∧ ∃ N : L2.St → Hp → Prop, (∀ σ' H', N σ' H' → ∃ m', m' < m ∧ W (i + 1) m' σ' H') ∧ ∀ x H', (Ite K a).yld i H x H' → g x σ H' fun σ2 H2 => tb { D with nx := N, ct := N, bk := D.nx } σ2 H2) := by
  refine ⟨fun i m σ H => m = xs.length - i ∧ i ≤ xs.length ∧ Pv i σ H, ⟨xs.length, by simp, Nat.zero_le _, h0⟩, ?_⟩
  rintro i m σ H ⟨rfl, hi, p⟩
  have q := hl i σ H hi p
  by_cases hlt : i < xs.length
  · refine .inr ⟨⟨xs, xs[i], q, by simp [hlt]⟩, Pv (i + 1), fun σ' H' p' => ⟨xs.length - (i + 1), by omega, rfl, hlt, p'⟩, fun x H' y => ?_⟩
    obtain ⟨T, z, rfl, nT, rfl, y⟩ := y
    exact hs i z T σ H (y xs q) p nT
  · have e : i = xs.length := by omega
    subst e
    exact .inl ⟨⟨xs, q, Nat.le_refl _⟩, hd σ H p⟩
end
/-! ### bits, numbers in bits, seals: the mathematics -/
def Bits (ns : List Int) : Prop := ∀ z ∈ ns, z = 0 ∨ z = 1
/-- a number in so many bits, the one of greatest worth first -/
def wr : Nat → Int → List Int
  | 0, _ => []
  | i + 1, n => ((n / 2 ^ i) % 2) :: wr i n
theorem wr_len : ∀ (i : Nat) (n : Int), (wr i n).length = i
  | 0, _ => rfl
  | i + 1, n => congrArg (· + 1) (wr_len i n)
theorem wr_bits : ∀ (i : Nat) (n : Int), Bits (wr i n)
  | 0, _ => fun z h => nomatch h
  | i + 1, n => fun z h => by
    rcases List.mem_cons.mp h with rfl | h
    · omega
    · exact wr_bits i n z h
theorem half (n : Int) (i : Nat) : n / 2 ^ i / 2 = n / 2 ^ (i + 1) := by
  rw [Int.pow_succ, Int.ediv_ediv_of_nonneg (by exact Int.pow_nonneg (by decide))]
/-- the register: one more bit -/
def stepR (c : Nat) (b : Int) : Nat := if ((c / 32768 : Nat) : Int) = b then c * 2 % 65536 else (c * 2 % 65536) ^^^ 4129
theorem stepR_lt (c : Nat) (b : Int) : stepR c b < 65536 := by
  unfold stepR
  have h : c * 2 % 65536 < 65536 := Nat.mod_lt _ (by decide)
  split
  · exact h
  · exact Nat.xor_lt_two_pow (n := 16) h (by decide)
def regs (bs : List Int) : Nat := bs.foldl stepR 65535
theorem regs_lt (bs : List Int) : regs bs < 65536 := by
  have : ∀ (l : List Int) (c : Nat), c < 65536 → l.foldl stepR c < 65536 := by
    intro l
    induction l with
    | nil => exact fun c h => h
    | cons b r ih => exact fun c _ => ih _ (stepR_lt c b)
  exact this bs 65535 (by decide)
def sealL (bs : List Int) : List Int := wr 16 (regs bs : Nat)
theorem take_more {α : Type} {l : List α} {i : Nat} {x : α} (h : l[i]? = some x) : l.take (i + 1) = l.take i ++ [x] := by
  rw [List.take_add_one, h]
  rfl
theorem regs_more {bs : List Int} {i : Nat} {b : Int} (h : bs[i]? = some b) : regs (bs.take (i + 1)) = stepR (regs (bs.take i)) b := by
  unfold regs
  rw [take_more h, List.foldl_append]
  rfl
theorem wr_at (c : Nat) (i : Nat) : ((c : Int) / 2 ^ i) % 2 = if c.testBit i then 1 else 0 := by
  have e : ((c : Int) / 2 ^ i) % 2 = ((c / 2 ^ i % 2 : Nat) : Int) := by
    rw [Int.natCast_emod, Int.natCast_ediv, Int.natCast_pow]
    rfl
  rw [e, Nat.testBit_eq_decide_div_mod_eq]
  have h : c / 2 ^ i % 2 < 2 := Nat.mod_lt _ (by decide)
  by_cases h1 : c / 2 ^ i % 2 = 1
  · rw [h1]; rfl
  · have h0 : c / 2 ^ i % 2 = 0 := by omega
    rw [h0]; rfl
def holdsB (ns : List Int) : Bool := decide (16 ≤ ns.length) && decide (sealL (ns.take (ns.length - 16)) = ns.drop (ns.length - 16))
theorem wr_shift (c : Nat) : wr 16 ((c * 2 % 65536 : Nat) : Int) = (wr 16 (c : Int)).drop 1 ++ [0] := by
  have e : ((c * 2 % 65536 : Nat) : Int) = (c : Int) * 2 % 65536 := by rw [Int.natCast_emod, Int.natCast_mul]; rfl
  rw [e]
  generalize (c : Int) = z
  simp only [wr, List.drop, List.cons_append, List.nil_append, List.cons.injEq, and_true]
  refine ⟨?_, ?_, ?_, ?_, ?_, ?_, ?_, ?_, ?_, ?_, ?_, ?_, ?_, ?_, ?_, ?_⟩ <;> omega
def fl (M : List Int) (k : Nat) : List Int := M.set k (1 - M.getD k 0)
theorem wr_flip (a : Nat) : wr 16 ((a ^^^ 4129 : Nat) : Int) = fl (fl (fl (wr 16 (a : Int)) 3) 10) 15 := by
  simp only [wr, wr_at, Nat.testBit_xor, fl]
  simp only [List.set, List.getD, List.getElem?_cons_succ, List.getElem?_cons_zero, Option.getD]
  have h : ∀ i : Nat, (if ((a.testBit i) ^^ true) = true then (1 : Int) else 0) = 1 - (if a.testBit i = true then 1 else 0) := by
    intro i
    cases a.testBit i <;> rfl
  have t0 : (4129 : Nat).testBit 0 = true := by decide
  have t5 : (4129 : Nat).testBit 5 = true := by decide
  have t12 : (4129 : Nat).testBit 12 = true := by decide
  have n1 : (4129 : Nat).testBit 1 = false := by decide
  have n2 : (4129 : Nat).testBit 2 = false := by decide
  have n3 : (4129 : Nat).testBit 3 = false := by decide
  have n4 : (4129 : Nat).testBit 4 = false := by decide
  have n6 : (4129 : Nat).testBit 6 = false := by decide
  have n7 : (4129 : Nat).testBit 7 = false := by decide
  have n8 : (4129 : Nat).testBit 8 = false := by decide
  have n9 : (4129 : Nat).testBit 9 = false := by decide
  have n10 : (4129 : Nat).testBit 10 = false := by decide
  have n11 : (4129 : Nat).testBit 11 = false := by decide
  have n13 : (4129 : Nat).testBit 13 = false := by decide
  have n14 : (4129 : Nat).testBit 14 = false := by decide
  have n15 : (4129 : Nat).testBit 15 = false := by decide
  simp only [t0, t5, t12, n1, n2, n3, n4, n6, n7, n8, n9, n10, n11, n13, n14, n15, Bool.xor_false, h]
/-- data of ints -/
def dI (ns : List Int) : PyData := .list (ns.map PyData.int)
theorem dpa_ints {K : PySem.W.Frag} {H : Hp} : ∀ ns : List Int, DpAll K H (ns.map V.int) (ns.map PyData.int)
  | [] => .nil
  | n :: r => .cons (.int n) (dpa_ints r)
theorem dp_ints {K : PySem.W.Frag} {H : Hp} {a : Addr} {ns : List Int} (h : SqL K H a (ns.map V.int)) : Dp K H (.ref a) (dI ns) := .lst h (dpa_ints ns)
theorem depth_ints : ∀ ns : List Int, PyData.depthAll (ns.map PyData.int) = 0
  | [] => rfl
  | n :: r => by
    show max 0 (PyData.depthAll (r.map PyData.int)) = 0
    rw [depth_ints r]
    rfl
theorem canLay_ints : ∀ ns : List Int, PyData.canLayAll0 (ns.map PyData.int) = true
  | [] => rfl
  | n :: r => by
    show (true && PyData.canLayAll0 (r.map PyData.int)) = true
    rw [canLay_ints r]
    rfl
theorem shaped_ints (ns : List Int) : SeqAt.shaped (dI ns) = true := by
  unfold SeqAt.shaped
  rw [Bool.and_eq_true]
  refine ⟨canLay_ints ns, decide_eq_true ?_⟩
  show PyData.depthAll (ns.map PyData.int) + 1 ≤ 64
  rw [depth_ints]
  decide
theorem eqv_ints (ns ms : List Int) : PyData.eqv (dI ns) (dI ms) = decide (ns = ms) := by
  have : ∀ (ns ms : List Int), PyData.eqvAll (ns.map PyData.int) (ms.map PyData.int) = decide (ns = ms) := by
    intro ns
    induction ns with
    | nil =>
      intro ms
      cases ms with
      | nil => rfl
      | cons m r => rfl
    | cons n r ih =>
      intro ms
      cases ms with
      | nil => rfl
      | cons m t =>
        show (PyData.eqv (.int n) (.int m) && PyData.eqvAll (r.map PyData.int) (t.map PyData.int)) = _
        rw [ih t]
        show ((n == m) && decide (r = t)) = _
        rw [show (n == m) = decide (n = m) from by rw [Bool.beq_eq_decide_eq], ← Bool.decide_and]
        exact decide_eq_decide.mpr ⟨fun h => by rw [h.1, h.2], fun h => List.cons.inj h⟩
  exact this ns ms
/-! ### what a law knows of the heap: the bag at b, and these -/
structure SH (b : Addr × Addr) (H : Hp) (L : List (Addr × HO)) : Prop where
  bag : Bag b H
  nb : ∀ p ∈ L, p.1 ≠ b.1 ∧ p.1 ≠ b.2
  kn : ∀ p ∈ L, H p.1 = some p.2
section
variable {b : Addr × Addr} {p : Addr} {H H' : Hp} {L L' : List (Addr × HO)} {o o' : HO}
theorem SH.same (h : SH b H L) (s : Same H H') : SH b H' L := ⟨h.bag.same s, h.nb, fun q hq => s _ _ (h.kn q hq)⟩
theorem SH.mv (h : SH b H L) (m : Mv b.1 H H') (g : Bag b H') : SH b H' L := ⟨g, h.nb, fun q hq => m _ _ (h.nb q hq).1 (h.kn q hq)⟩
theorem SH.add (h : SH b H L) (n : p ≠ b.1) (n2 : p ≠ b.2) (e : H p = some o) : SH b H ((p, o) :: L) :=
  ⟨h.bag, fun q hq => (List.mem_cons.mp hq).elim (fun z => by rw [z]; exact ⟨n, n2⟩) (h.nb q), fun q hq => (List.mem_cons.mp hq).elim (fun z => by rw [z]; exact e) (h.kn q)⟩
theorem SH.new (h : SH b H L) (n : H p = none) : SH b (upd H p o) ((p, o) :: L) := (h.same (same_upd n)).add (h.bag.ne n) (h.bag.ne2 n) upd_same
theorem SH.newS (h : SH b H L) (s : Same H H') (n : H p = none) (e : H' p = some o) : SH b H' ((p, o) :: L) := (h.same s).add (h.bag.ne n) (h.bag.ne2 n) e
theorem SH.newM (h : SH b H L) (m : Mv b.1 H H') (g : Bag b H') (n : H p = none) (e : H' p = some o) : SH b H' ((p, o) :: L) := (h.mv m g).add (h.bag.ne n) (h.bag.ne2 n) e
theorem SH.sub (h : SH b H L) (hs : ∀ q ∈ L', q ∈ L) : SH b H L' := ⟨h.bag, fun q hq => h.nb q (hs q hq), fun q hq => h.kn q (hs q hq)⟩
theorem SH.get (h : SH b H L) (hm : (p, o) ∈ L) : H p = some o := h.kn _ hm
theorem SH.ne (h : SH b H L) (hm : (p, o) ∈ L) : p ≠ b.1 := (h.nb _ hm).1
/-- the first of them is written; the others stand elsewhere -/
theorem SH.put (h : SH b H ((p, o) :: L)) (hd : ∀ q ∈ L, q.1 ≠ p) : SH b (upd H p o') ((p, o') :: L) :=
  ⟨h.bag.upd (h.nb _ (.head _)).1 (h.nb _ (.head _)).2, fun q hq => (List.mem_cons.mp hq).elim (fun z => by rw [z]; exact h.nb (p, o) (.head L)) (fun hq => h.nb q (.tail _ hq)),
    fun q hq => (List.mem_cons.mp hq).elim (fun z => by rw [z]; exact upd_same) (fun hq => by rw [upd_ne (hd q hq)]; exact h.kn q (.tail _ hq))⟩
theorem SH.apart (h : SH b H L) (n : H p = none) : ∀ q ∈ L, q.1 ≠ p := fun q hq => ne_of_none (h.kn q hq) n
theorem SH.nil (g : Bag b H) : SH b H [] := ⟨g, (fun _ h => absurd h List.not_mem_nil), (fun _ h => absurd h List.not_mem_nil)⟩
end
theorem bits_nil : Bits [] := fun _ h => nomatch h
theorem bits_app {a c : List Int} (h : Bits a) (h' : Bits c) : Bits (a ++ c) := fun z hz => (List.mem_append.mp hz).elim (h z) (h' z)
theorem bits_one {z : Int} (h : z = 0 ∨ z = 1) : Bits [z] := fun y hy => by rw [List.mem_singleton.mp hy]; exact h
theorem bits_take {a : List Int} (h : Bits a) (n : Nat) : Bits (a.take n) := fun z hz => h z (List.mem_of_mem_take hz)
theorem bits_drop {a : List Int} (h : Bits a) (n : Nat) : Bits (a.drop n) := fun z hz => h z (List.mem_of_mem_drop hz)
theorem seal_bits (ns : List Int) : Bits (sealL ns) := wr_bits _ _
theorem seal_len (ns : List Int) : (sealL ns).length = 16 := wr_len _ _
theorem cut_to_n (xs : List V) (n : Nat) : cutV xs none (some (n : Int)) = xs.take n := by
  unfold cutV
  rw [HT.sIx_none, HT.sIx_nat, List.drop_zero, Nat.sub_zero]
  by_cases h : n ≤ xs.length
  · rw [Nat.min_eq_left h]
  · rw [Nat.min_eq_right (by omega), List.take_of_length_le (Nat.le_refl _), List.take_of_length_le (by omega)]
theorem cut_from_n (xs : List V) (n : Nat) : cutV xs (some (n : Int)) none = xs.drop n := by
  unfold cutV
  rw [HT.sIx_none, HT.sIx_nat]
  by_cases h : n ≤ xs.length
  · rw [Nat.min_eq_left h]
    exact List.take_of_length_le (by simp)
  · rw [Nat.min_eq_right (by omega), List.drop_of_length_le (Nat.le_refl _), List.drop_of_length_le (by omega)]
    exact List.take_nil
theorem sIx_back (l d n : Nat) (h : 0 < n) : HT.sIx l d (some (-(n : Int))) = l - n := by
  show (if -(n : Int) < 0 then (-(n : Int) + (l : Int)).toNat else min (-(n : Int)).toNat l) = l - n
  rw [if_pos (by omega)]
  omega
theorem cut_to_b (xs : List V) (n : Nat) (h : 0 < n) : cutV xs none (some (-(n : Int))) = xs.take (xs.length - n) := by
  unfold cutV
  rw [HT.sIx_none, sIx_back _ _ n h, List.drop_zero, Nat.sub_zero]
theorem cut_from_b (xs : List V) (n : Nat) (h : 0 < n) : cutV xs (some (-(n : Int))) none = xs.drop (xs.length - n) := by
  unfold cutV
  rw [HT.sIx_none, sIx_back _ _ n h]
  exact List.take_of_length_le (by simp)
theorem sz4 {n : Nat} (h : n ≤ 100000) : n ≤ sizeLine := Nat.le_trans h (by decide)
theorem sz4l {n : Nat} (h : n < 100000) : n < sizeLine := Nat.lt_of_lt_of_le h (by decide)
theorem holds_sealed {ns : List Int} : holdsB (ns ++ sealL ns) = true := by
  unfold holdsB
  have l : (ns ++ sealL ns).length = ns.length + 16 := by rw [List.length_append, seal_len]
  rw [l, Nat.add_sub_cancel, List.take_left, List.drop_left]
  simp
theorem holds_short {ns : List Int} (h : ns.length < 16) : holdsB ns = false := by
  unfold holdsB
  rw [decide_eq_false (by omega), Bool.false_and]
theorem inV_ints (z : Int) : ∀ ks : List Int, inV (.int z) (ks.map V.int) = decide (z ∈ ks)
  | [] => rfl
  | k :: r => by
    show ((k == z) || inV (.int z) (r.map V.int)) = _
    rw [inV_ints z r]
    by_cases h : z = k
    · subst h
      simp
    · have h2 : (k == z) = false := by simpa using fun e => h e.symm
      rw [h2, Bool.false_or]
      exact decide_eq_decide.mpr ⟨fun hm => .tail _ hm, fun hm => (List.mem_cons.mp hm).elim (fun e => absurd e h) (fun e => e)⟩
def isB (b : Int) : Prop := b = 0 ∨ b = 1
theorem bits_cons {b : Int} {r : List Int} (h : Bits (b :: r)) : isB b ∧ Bits r := ⟨h b (.head _), fun z hz => h z (.tail _ hz)⟩
theorem getI {ns : List Int} {i : Nat} {y : V} (h : (ns.map V.int)[i]? = some y) : ∃ z, ns[i]? = some z ∧ y = V.int z := by
  rw [List.getElem?_map] at h
  cases e : ns[i]? with
  | none => rw [e] at h; cases h
  | some z => rw [e] at h; exact ⟨z, rfl, (Option.some.inj h).symm⟩
end WB
namespace WB
open PySem PySem.Spec PyProof.Rows L2
/-! ### a class's own function, called by the class: C.m(e, ..) -/
structure ClsFn (K : PySem.W.Frag) (mg : Str → Option Value) (x m : Str) (C f : Addr) : Prop where
  gC : mg x = some (.ref C)
  sg : PySem.W.specialIn K (.ref C) "__getattribute__" = some (some (.builtin "type.__getattribute__"))
  ty : PySem.W.typeIn K (.ref C) = some (.type "type")
  rd : PySem.W.readsIn K C (.type "type") = true
  fc : PySem.W.findCls K (.ref C) (.type "type") m = some (.val (.ref f))
  hd : PySem.W.handedIn (.ref f) = true
  kp : PySem.W.keepIn K (.ref f) = true
section
variable {X : Cx} {CX : CXT} {k : Nat} {f C : Addr} {fd : FuncData} {ps : List Str} {sp : Sp} {E : XK} {x m : Str} {p1 p2 pos : Pos} {e : Expr} {es : List Expr} {t : TA}
theorem pe_clsfn {pl : Sem Bool} (T : ClsFn X.K X.mg x m C f) (F : FnOk X.prog X.w X.K X.mg X.base CX k f fd ps sp) (hr : Room k X.A) (hb : Binds X.K fd ps []) (hx : Passes CX X E) (hg : Gl X x) (ha : PA X (e :: es) t)
    (hc : eval (.Call (.Attribute (.Name x p1) m p2) (e :: es) [] pos) X.env = (do
      let ov ← eval (.Name x p1) X.env
      standAt p2.atName
      let (f, first) ← holding [ov] (getMethod ov m pl)
      callWith pos f first (backTo pos (starEach (e :: es) X.env)) (backToKw pos (keywordEach [] X.env))) := by rfl)
    (hdb : (x == ("__debug__" : Str)) = false := by decide) (he : starEach (e :: es) X.env = (false, eval e X.env) :: starEach es X.env := by rfl) (hpl : (backTo pos (starEach es X.env)).any (·.1) = false := by rfl) :
    PE X (.Call (.Attribute (.Name x p1) m p2) (e :: es) [] pos) (tCall sp [] E t) := by
  refine ⟨fun pins s σ H Q I h => ?_⟩
  refine PySem.W.methodCall_KW (ld_glob I hg T.gC ?_ hdb) hc
  obtain ⟨mm, fr⟩ := I.fr
  refine PySem.W.method_of_cls fr I.ok.mod.kin T.sg (PySem.W.cls_val fr I.ok.mod.kin T.ty T.rd T.fc T.hd ?_)
  show wpAny _ _ (callWith pos (Value.ref f) [] (backTo pos (starEach (e :: es) X.env)) []) _ _ _
  refine PySem.W.callWith_K (h₀ := X.base) I.ok.mod.kin T.kp (thn (ha.run pos pins _ σ H _ (I.tok _) h) fun us s1 ⟨vs, H1, I1, r, q⟩ => ⟨I1.kIn, ?_⟩) he hpl
  exact run_fn F hr hb .nil hx I1 r q
end
/-! ### own exceptions -/
/-- LineError.__init__ -/
def spLE (K : PySem.W.Frag) : Sp := fun vs H Q _ => ∃ (a C : Addr) (w t : V), vs = [.ref a, w, t] ∧ OexC K C ∧ PySem.W.findIn K (.ref C) "word" = some none ∧ H a = some (exo a C none) ∧
  ∀ d, H d = none → d ≠ a → Q .non (upd (upd H d (exd d [(("word" : Str), w)])) a (exo a C (some d)))
/-- a class below it, its name, its field -/
def spIni (K : PySem.W.Frag) (C : Addr) (nm fld : Str) : Sp := fun vs H Q _ => ∃ (a : Addr) (i : Int), vs = [.ref a, .int i] ∧ i.natAbs.log2 < 1000 ∧ H a = some (exo a C none) ∧
  ∀ d, H d = none → d ≠ a → Q .non (upd (upd (upd H d (exd d [(("word" : Str), .str nm)])) a (exo a C (some d))) d (exd d [(fld, .int i), (("word" : Str), .str nm)]))
def XcOk (P : Program) (w : World) (K : PySem.W.Frag) (mg : Str → Option Value) (base : Heap) (k : Nat) (nm : Str) (C : Addr) (sp : Sp) : Prop :=
  ∃ (fI : Addr) (fd : FuncData) (ps : List Str), OexC K C ∧ PySem.W.findIn K (.ref C) "__init__" = some (some (.ref fI)) ∧ PySem.W.typeIn K (.ref fI) = some (.type "function") ∧ FnOk P w K mg base CX0 k fI fd ps sp ∧ Binds K fd ps [] ∧ mg nm = some (.ref C)
theorem XcOk.mono {P : Program} {w : World} {K : PySem.W.Frag} {mg : Str → Option Value} {base : Heap} {j k : Nat} {nm : Str} {C : Addr} {sp : Sp} (x : XcOk P w K mg base j nm C sp) (h : j ≤ k) : XcOk P w K mg base k nm C sp := by
  obtain ⟨fI, fd, ps, a, b, c, d, e⟩ := x
  exact ⟨fI, fd, ps, a, b, c, d.mono h, e⟩
section
variable {X : Cx} {k : Nat} {nm : Str} {C : Addr} {sp : Sp} {e : Expr} {es : List Expr} {ta : TA} {p pos : Pos}
theorem pmk_c (x : XcOk X.prog X.w X.K X.mg X.base k nm C sp) (hr : Room (k + 1) X.A) (hg : Gl X nm) (ha : PA X (e :: es) ta) (hdb : (nm == ("__debug__" : Str)) = false := by decide)
    (he : starEach (e :: es) X.env = (false, eval e X.env) :: starEach es X.env := by rfl) (hpl : (backTo pos (starEach es X.env)).any (·.1) = false := by rfl) : PMk X (.Call (.Name nm p) (e :: es) [] pos) (tMkO C sp [] ta) := by
  obtain ⟨fI, fd, ps, a, b, c, d, e1, g⟩ := x
  exact pmk_oex a b c d hr e1 .nil pass0 hg g ha hdb he hpl
end
theorem mk_inner {K : PySem.W.Frag} {C : Addr} {nm fld : Str} {i : Int} {H1 : Hp} {Q : XK} (hi : i.natAbs.log2 < 1000)
    (q : ∀ H' d, Same H1 H' → H1 d = none → H' d = some (.xd [(fld, .int i), (("word" : Str), .str nm)]) → Q (.ref C) (some d) H') :
    ([V.int i] : List V).length ≤ 1000 ∧ ∀ a, H1 a = none → spIni K C nm fld (.ref a :: ([V.int i] ++ [])) (upd H1 a (exo a C none))
      (fun v H2 => v = .non ∧ ∃ (d : Addr) (fs : List (Str × V)), H2 a = some (exo a C (some d)) ∧ H2 d = some (exd d fs) ∧ H1 d = none ∧ Q (.ref C) (some d) (upd (del H2 a) d (.xd fs))) (fun _ _ _ => False) := by
  refine ⟨by show 1 ≤ 1000; decide, fun a na => ⟨a, i, rfl, hi, upd_same, fun d nd da => ⟨rfl, d, [(fld, .int i), (("word" : Str), .str nm)], ?_, upd_same, ?_, ?_⟩⟩⟩
  · rw [upd_ne da.symm, upd_same]
  · rw [upd_ne da] at nd
    exact nd
  · rw [upd_ne da] at nd
    refine q _ d (fun b o h => ?_) nd upd_same
    have hb : b ≠ d := ne_of_none h nd
    have hba : b ≠ a := ne_of_none h na
    rw [upd_ne hb, del_ne hba, upd_ne hb, upd_ne hba, upd_ne hb, upd_ne hba]
    exact h
/-! ### defs that may let an exception out -/
def CalX (P : Program) (w : World) (K : PySem.W.Frag) (mg : Str → Option Value) (base : Heap) (k : Nat) (nm : Str) (ps : List Str) (sp : Sp) : Prop :=
  ∃ (f : Addr) (fd : FuncData), FnOk P w K mg base (L2.CX P w) k f fd ps sp ∧ mg nm = some (.ref f) ∧ PySem.W.keepIn K (.ref f) = true ∧ Binds K fd ps []
theorem CalX.mono {P : Program} {w : World} {K : PySem.W.Frag} {mg : Str → Option Value} {base : Heap} {j k : Nat} {nm : Str} {ps : List Str} {sp : Sp} (c : CalX P w K mg base j nm ps sp) (h : j ≤ k) : CalX P w K mg base k nm ps sp := by
  obtain ⟨f, fd, a, b, d, e⟩ := c
  exact ⟨f, fd, a.mono h, b, d, e⟩
section
variable {X : Cx} {k : Nat} {nm : Str} {ps : List Str} {sp : Sp} {E : XK} {e : Expr} {es : List Expr} {t : TA} {p pos : Pos}
/-- where it lets nothing out -/
theorem pe_callF (c : CalX X.prog X.w X.K X.mg X.base k nm ps sp) (hr : Room k X.A) (hg : Gl X nm) (ha : PA X (e :: es) t) (hdb : (nm == ("__debug__" : Str)) = false := by decide)
    (he : starEach (e :: es) X.env = (false, eval e X.env) :: starEach es X.env := by rfl) (hpl : (backTo pos (starEach es X.env)).any (·.1) = false := by rfl) :
    PE X (.Call (.Name nm p) (e :: es) [] pos) (tCall sp [] E0 t) := by
  obtain ⟨f, fd, a, b, d, g⟩ := c
  exact pe_call a hr hg b d g .nil passL ha hdb he hpl
/-- where what it lets out is taken -/
theorem pe_callP (c : CalX X.prog X.w X.K X.mg X.base k nm ps sp) (hr : Room k X.A) (hx : Passes (L2.CX X.prog X.w) X E) (hg : Gl X nm) (ha : PA X (e :: es) t) (hdb : (nm == ("__debug__" : Str)) = false := by decide)
    (he : starEach (e :: es) X.env = (false, eval e X.env) :: starEach es X.env := by rfl) (hpl : (backTo pos (starEach es X.env)).any (·.1) = false := by rfl) :
    PE X (.Call (.Name nm p) (e :: es) [] pos) (tCall sp [] E t) := by
  obtain ⟨f, fd, a, b, d, g⟩ := c
  exact pe_call a hr hg b d g .nil hx ha hdb he hpl
end
theorem txt_fits {z : Str} {i : Int} (hz : z.length ≤ 1000) (hi : i.natAbs.log2 < 1000) : (z ++ Str.ofString (toString i)).length ≤ sizeLine := by
  have e := PySem.int_text_length_le (k := 1000) (a := i) (by decide) hi
  rw [PySem.Str.length_append, PySem.ofString_length, PySem.sizeLine_eq]
  omega
/-! ### several clauses, each with the name n (slot i) -/
def asEnds (i : Nat) (D : Ends) : Ends := ⟨fun σ' H' => D.nx (σ'.set i none) H', D.rt, fun σ' H' => D.bk (σ'.set i none) H', fun σ' H' => D.ct (σ'.set i none) H'⟩
def wManyA (K : PySem.W.Frag) (i : Nat) (Wo : WX) (D : Ends) : List (Value × (Addr → Value → Option Addr → TS)) → WX
  | [] => Wo
  | (c, ts) :: r => fun cls d σ H => ∃ b, PySem.W.exmOne K cls c = some b ∧ (b = true → ∀ a, H a = none → ts a cls d (asEnds i D) (σ.set i (some (.ref a))) H) ∧ (b = false → wManyA K i Wo D r cls d σ H)
inductive HdsA (X : Cx) (n : Str) : List ExceptHandler → List (Value × (Addr → Value → Option Addr → TS)) → Prop
  | nil : HdsA X n [] []
  | cons {x : Str} {c : Value} {ts : Addr → Value → Option Addr → TS} {st : Stmt} {sts : List Stmt} {q1 q2 : Pos} {hs : List ExceptHandler} {l : List (Value × (Addr → Value → Option Addr → TS))} (hc : Names X x c)
      (hsu : ∀ (a : Addr) (oe : Obj) (cls : Value) (d : Option Addr) (pn : List (Addr × Obj)), Zc cls d oe → (∃ vs, oe.data = .fields vs) → PSs (X.suite a ((a, oe) :: pn)) (st :: sts) (ts a cls d)) (r : HdsA X n hs l) :
      HdsA X n (.ExceptHandler (some (.Name x q1)) (some n) (st :: sts) q2 :: hs) ((c, ts) :: l)
section
variable {X : Cx} {n : Str} {i : Nat} {bd : List Stmt} {h0 : ExceptHandler} {hs : List ExceptHandler} {l : List (Value × (Addr → Value → Option Addr → TS))} {pos : Pos} {tb : WX → TS} {Wo : WX}
theorem ps_try_manyA (hst : X.stack = X.env :: X.outer) (hfm : X.env.frame = some X.env.locals) (hnd : X.N.Nodup) (hni : X.N[i]? = some n) (hnl : X.env.kindOf n = some .local) (tk : Takes X Wo)
    (hb : ∀ (W : WX) (pn : List (Addr × Obj)) (xe : Value → Shared → Prop), Takes (X.tr pn xe) W → PassesOwn (model X.prog X.w) X.A X.env xe → PSs (X.tr pn xe) bd (tb W))
    (hh : HdsA X n (h0 :: hs) l) : PS X (.Try bd (h0 :: hs) [] [] pos) (fun D σ H => tb (wManyA X.K i Wo D l) D σ H) := by
  refine ⟨fun pins s σ H D I hw => ?_⟩
  have kk := I.ok
  have hfr2 : X.A.frames = some (X.env :: X.outer) := kk.frames.trans (congrArg some hst)
  have hlo : Loc X.env.scope n := Or.inl hnl
  refine wpAny_Try_except (wpAny_mono ((hb (wManyA X.K i Wo D l) (X.pn ++ pins) (fun e z1 => wpAny (model X.prog X.w) X.A (noteFrame e X.env) (fun _ z2 => wpAny (model X.prog X.w) X.A (setFlight e none) (fun _ z3 =>
    wpAny (model X.prog X.w) X.A (handleBy e X.env (h0 :: hs)) (SP X pins D) X.xe z3) X.xe z2) X.xe z1) (fun u z' xx => ?_) PassesOwn.looking).run [] s σ H D (I.toTry _) hw) (fun fl z1 hsp => ?_) (fun _ _ y => y))
  · obtain ⟨a, B, sI, pins', τ, G, cls, d, rfl, J', nb, up, sky, na, hos, hag, wch⟩ := xx
    have J : Inv X pins τ G sI := J'.ofTry kk
    have sky2 : Sky B (X.env :: X.outer) a (Zc cls d) X.env.locals z'.heap := hst ▸ sky
    refine Sky.land Zc.steady hfr2 hfm sky2 fun g3 fl3 up3 => ?_
    have J3 : Inv X pins τ G { z' with heap := g3 } := J.landed nb fl3.1 (up.trans up3) hos hag
    obtain ⟨o3, v3, he3, hz3, hd3⟩ := fl3.there
    have nin : a ∉ frs (X.env :: X.outer) := fun hm => by
      obtain ⟨_, o', e', hnf⟩ := fl3.2.2.1.mem hm
      rw [he3] at e'; cases e'; exact hnf _ hd3
    have nL : a ≠ X.env.locals := fun y => nin (List.mem_filterMap.mpr ⟨X.env, List.mem_cons_self, hfm.trans (congrArg some y.symm)⟩)
    have nF : a ∉ X.fs := fun hm => by
      obtain ⟨e, he, y⟩ := List.mem_filterMap.mp hm
      exact nin (List.mem_filterMap.mpr ⟨e, List.mem_cons_of_mem _ he, y⟩)
    have S3 := J3.suite he3 hd3 na nL nF
    have go : ∀ {hs' : List ExceptHandler} {l' : List (Value × (Addr → Value → Option Addr → TS))}, HdsA X n hs' l' → wManyA X.K i Wo D l' cls d τ G → wpAny (model X.prog X.w) X.A (handleBy (.ref a) X.env hs') (SP X pins D) X.xe { z' with heap := g3 } := by
      intro hs' l' hk
      induction hk with
      | nil =>
        intro wch
        obtain ⟨k1, k2, k3, oe, vs, T, oT, ts', he, hz, hd, h1, hr⟩ := id fl3
        refine wpAny_handleBy_nil ?_
        unfold PySem.passOn
        refine wpAny_bind (wpAny_field he hd h1 ?_)
        have fin : wpAny (model X.prog X.w) X.A (setFlight (.ref a) X.env.frame) (fun _ z4 => wpAny (model X.prog X.w) X.A (throw (.ref a) : Sem Flow) (SP X pins D) X.xe z4) X.xe { z' with heap := g3 } := by
          rw [hfm]
          exact HandSPX.setFlight_upZ fl3 fun h4 hh4 up4 => wpAny_throw (tk _ _ ⟨a, B, sI, pins, τ, G, cls, d, rfl, J, nb, (up.trans up3).trans up4, .inr (.inr (hst ▸ hh4)), na, hos, hag, wch⟩)
        rw [if_neg (by simp : ¬ ((Value.ref T == Value.none) = true))]
        first | exact wpAny_bind (wpAny_pure (wpAny_bind fin)) | exact wpAny_bind fin
      | @cons x c ts st sts q1 q2 hs2 l2 hc hsu r ih =>
        intro wch
        obtain ⟨b, hb1, yes, no⟩ := wch
        refine wpAny_handleBy_cons (codeAny_handlers_test ?_) (fun y => by cases y)
        have LT : PySem.W.Looks (model X.prog X.w) g3 (typeOf (.ref a)) cls := fun A Q E s k q => wpAny_typeOf_ref (k _ _ he3) (hz3.1.symm ▸ q)
        have LM := PySem.W.exm_one (M := model X.prog X.w) J3.kIn LT hb1
        have tst : ∀ {Q : Value → Shared → Prop} {E : Value → Shared → Prop}, Q c { z' with heap := g3 } → wpAny (model X.prog X.w) (X.A.mark (some (.ref a))) (eval (.Name x q1) X.env) Q E { z' with heap := g3 } := fun {Q E} y => by
          rcases hc with ⟨hg, hdb, hm | ⟨hm, hv, hnn⟩⟩
          · exact ld_glob (X := X.suite a ((a, o3) :: (X.pn ++ pins))) S3 hg hm y hdb
          · exact ld_blt (X := X.suite a ((a, o3) :: (X.pn ++ pins))) S3 hg hm hv y hnn hdb
        refine tst (LM.here ?_)
        cases b with
        | false => exact ih (no rfl)
        | true =>
          refine codeAny_handlers_suite_as (HandSPX.lands_againZ fl3 fun g4 fl4 up4 => ?_)
          have J4 : Inv X pins τ G { z' with heap := g4 } := J.landed nb fl4.1 ((up.trans up3).trans up4) hos hag
          obtain ⟨o4, v4, he4, hz4, hd4⟩ := fl4.there
          refine store_ok (X := X.suite a ((a, o4) :: (X.pn ++ pins))) (v := .ref a) (J4.suite he4 hd4 na nL nF) hnd hni hlo rfl (fun s5 S5 => ?_) (.inr hnl)
          refine wpAny_mono ((hsu a o4 cls d (X.pn ++ pins) hz4 ⟨_, hd4⟩).run [] s5 _ G _ S5 (yes rfl a na)) (fun fl z6 hsp => ?_) (fun _ _ y => y.elim)
          have over : ∀ {τ6 : L2.St} {G6 : Hp} {R : Shared → Prop}, Inv (X.suite a ((a, o4) :: (X.pn ++ pins))) [] τ6 G6 z6 → (∀ z7, Inv X pins (τ6.set i none) G6 z7 → R z7) →
              wpAny (model X.prog X.w) X.A (do bindName X.env n .none; unbindBehindTheSuite X.env n q2) (fun _ z7 => R z7) X.xe z6 := fun S6 hq => gone_ok (S6.unsuite kk) hnd hni hnl hq
          cases fl with
          | next => obtain ⟨τ6, G6, S6, q6⟩ := hsp; exact over S6 fun z7 J7 => ⟨_, _, J7, q6⟩
          | brk => obtain ⟨τ6, G6, S6, q6⟩ := hsp; exact over S6 fun z7 J7 => ⟨_, _, J7, q6⟩
          | cont => obtain ⟨τ6, G6, S6, q6⟩ := hsp; exact over S6 fun z7 J7 => ⟨_, _, J7, q6⟩
          | ret u => obtain ⟨v6, τ6, G6, S6, r6, q6⟩ := hsp; exact over S6 fun z7 J7 => ⟨_, _, _, J7, r6, q6⟩
    exact go hh wch
  · cases fl with
    | next => obtain ⟨τ, G, J', q⟩ := hsp; exact wpAny_execs_nil ⟨τ, G, J'.ofTry kk, q⟩
    | brk => obtain ⟨τ, G, J', q⟩ := hsp; exact ⟨τ, G, J'.ofTry kk, q⟩
    | cont => obtain ⟨τ, G, J', q⟩ := hsp; exact ⟨τ, G, J'.ofTry kk, q⟩
    | ret u => obtain ⟨v, τ, G, J', r, q⟩ := hsp; exact ⟨v, τ, G, J'.ofTry kk, r, q⟩
end
/-! ### what a law with lambdas knows of the heap: the bag at b, the tables T, these lists -/
/-- all that is no list stays -/
def NL (H H' : Hp) : Prop := ∀ a o, H a = some o → (∀ xs, o ≠ .lst xs) → H' a = some o
theorem tabs_nl {T : List (Addr × Str)} {H H' : Hp} (t : LamX.Tabs T H) (h : NL H H') : LamX.Tabs T H' := fun p hp => by
  obtain ⟨ps, h1, h2, h3⟩ := t p hp
  refine ⟨ps, h _ _ h1 (fun xs z => by cases z), h2, fun pos cv hc => ?_⟩
  obtain ⟨c, e1, e2⟩ := h3 pos cv hc
  exact ⟨c, e1, h _ _ e2 (fun xs z => by unfold LamX.CodeO at z; cases z)⟩
structure ST (b : Addr × Addr) (T : List (Addr × Str)) (H : Hp) (L : List (Addr × List V)) : Prop where
  bag : Bag b H
  nb : ∀ p ∈ L, p.1 ≠ b.1 ∧ p.1 ≠ b.2
  kn : ∀ p ∈ L, H p.1 = some (.lst p.2)
  tab : LamX.Tabs T H
section
variable {b : Addr × Addr} {T : List (Addr × Str)} {p : Addr} {H H' : Hp} {L L' : List (Addr × List V)} {o o' : List V}
theorem ST.same (h : ST b T H L) (s : Same H H') : ST b T H' L := ⟨h.bag.same s, h.nb, fun q hq => s _ _ (h.kn q hq), h.tab.ext s⟩
theorem ST.mv (h : ST b T H L) (m : Mv b.1 H H') (g : Bag b H') : ST b T H' L := ⟨g, h.nb, fun q hq => m _ _ (h.nb q hq).1 (h.kn q hq), tabs_nl h.tab (fun a o e n => m a o (fun z => by
  obtain ⟨_, _, _, _, _, h1, _⟩ := h.bag
  rw [z, h1] at e
  exact n _ (Option.some.inj e).symm) e)⟩
theorem ST.add (h : ST b T H L) (n : p ≠ b.1) (n2 : p ≠ b.2) (e : H p = some (.lst o)) : ST b T H ((p, o) :: L) :=
  ⟨h.bag, fun q hq => (List.mem_cons.mp hq).elim (fun z => by rw [z]; exact ⟨n, n2⟩) (h.nb q), fun q hq => (List.mem_cons.mp hq).elim (fun z => by rw [z]; exact e) (h.kn q), h.tab⟩
theorem ST.new (h : ST b T H L) (n : H p = none) : ST b T (upd H p (.lst o)) ((p, o) :: L) := (h.same (same_upd n)).add (h.bag.ne n) (h.bag.ne2 n) upd_same
theorem ST.newS (h : ST b T H L) (s : Same H H') (n : H p = none) (e : H' p = some (.lst o)) : ST b T H' ((p, o) :: L) := (h.same s).add (h.bag.ne n) (h.bag.ne2 n) e
theorem ST.newM (h : ST b T H L) (m : Mv b.1 H H') (g : Bag b H') (n : H p = none) (e : H' p = some (.lst o)) : ST b T H' ((p, o) :: L) := (h.mv m g).add (h.bag.ne n) (h.bag.ne2 n) e
theorem ST.sub (h : ST b T H L) (hs : ∀ q ∈ L', q ∈ L) : ST b T H L' := ⟨h.bag, fun q hq => h.nb q (hs q hq), fun q hq => h.kn q (hs q hq), h.tab⟩
theorem ST.get (h : ST b T H L) (hm : (p, o) ∈ L) : H p = some (.lst o) := h.kn _ hm
theorem ST.ne (h : ST b T H L) (hm : (p, o) ∈ L) : p ≠ b.1 := (h.nb _ hm).1
theorem ST.put (h : ST b T H ((p, o) :: L)) (hd : ∀ q ∈ L, q.1 ≠ p) : ST b T (upd H p (.lst o')) ((p, o') :: L) :=
  ⟨h.bag.upd (h.nb _ (.head _)).1 (h.nb _ (.head _)).2, fun q hq => (List.mem_cons.mp hq).elim (fun z => by rw [z]; exact h.nb (p, o) (.head L)) (fun hq => h.nb q (.tail _ hq)),
    fun q hq => (List.mem_cons.mp hq).elim (fun z => by rw [z]; exact upd_same) (fun hq => by rw [upd_ne (hd q hq)]; exact h.kn q (.tail _ hq)), tabs_nl h.tab (fun a u e n => by
      have e2 := h.kn (p, o) (.head _)
      rw [upd_ne (fun z => by rw [z, e2] at e; exact n _ (Option.some.inj e).symm)]
      exact e)⟩
theorem ST.apart (h : ST b T H L) (n : H p = none) : ∀ q ∈ L, q.1 ≠ p := fun q hq => ne_of_none (h.kn q hq) n
theorem ST.nil (g : Bag b H) (t : LamX.Tabs T H) : ST b T H [] := ⟨g, (fun _ h => absurd h List.not_mem_nil), (fun _ h => absurd h List.not_mem_nil), t⟩
theorem ST.extN (h : ST b T H L) (e : LamX.ExtN H H') (t : LamX.Tabs T H') : ST b T H' L := by
  refine ⟨?_, h.nb, fun q hq => e _ _ (h.kn q hq) (fun ps z => by cases z), t⟩
  obtain ⟨ns, i, r, x, c, h1, h2, h3⟩ := h.bag
  exact ⟨ns, i, r, x, c, e _ _ h1 (fun ps z => by cases z), e _ _ h2 (fun ps z => by cases z), h3⟩
end
/-! ### takes, where the slots are as many as the names -/
theorem takes_len {X : Cx} {W : WX} (tk : Takes X W) : Takes X (fun cls d σ H => σ.length = X.N.length → W cls d σ H) := fun u s' x => by
  obtain ⟨a, B, sI, pins, σ, H, cls, d, e, I, nb, up, sky, na, os, ag, w⟩ := x
  exact tk u s' ⟨a, B, sI, pins, σ, H, cls, d, e, I, nb, up, sky, na, os, ag, w I.len⟩
/-- what the law's at makes of a lambda that is refused by one of these classes -/
def TAt (cs : List (Addr × Str)) : (XK → Hp → VK → Prop) → Hp → VK → Prop := fun tl H Q =>
  tl (fun cls d H' => ∃ e ∈ cs, cls = .ref e.1 ∧ ∃ (dd : Addr) (v : V), d = some dd ∧ H' dd = some (.xd [(("at" : Str), v), (("word" : Str), .str e.2)]) ∧ ∀ p, H' p = none → Q (.ref p) (upd H' p (.lst [.str e.2, v]))) H (fun _ _ => False)
/-- a class of refusals with a place -/
structure AtC (K : PySem.W.Frag) (mg : Str → Option Value) (nm : Str) (C : Addr) : Prop where
  gC : mg nm = some (.ref C)
  xf : XfC K C
  no : PySem.W.findIn K (.ref C) "at" = some none
theorem set_get {σ : L2.St} {i : Nat} {v : Option V} (h : i < σ.length) : (σ.set i v)[i]? = some v := by
  rw [List.getElem?_set_self h]
/-! ### a law that hands lambdas to a def -/
def LamTo (X : Cx) (T : List (Addr × Str)) (nm : Str) (TT : (XK → Hp → VK → Prop) → Hp → VK → Prop) : Prop :=
  ∀ {params : Arguments} {body : Expr} {scope : Scope} {t : XK → TE} {p lpos pos : Pos} {k : Nat}, Room (k + 2) X.A → LamX.LamS X.env.scope scope → defaultsOf params X.env = ([], []) →
    (∀ (q : Str) (cl : List (Str × Addr)) (pm cv ctv : Value), bindArgs (PySem.W.kla_fn "<lambda>" q params body scope cl pm cv ctv) ⟨[], []⟩ = pure []) →
    (∀ (A : Around) (outer : List Env) (s : Shared) (H : Hp) (E : XK) (f c' : Addr), Room k (A.deeper (LamX.lamEnv X scope s.heap.objs.size f c')) → PE (LamX.lamCx X A outer s H E scope f c') body (t E)) →
    PE X (.Call (.Name nm p) [.Lambda params body scope lpos] [] pos) (LamX.tLam T TT t)
theorem okL {P : Program} {w : World} {K : PySem.W.Frag} {mg : Str → Option Value} {base : Heap} {x qual : Str} {st : Stmt} {f c : Addr} {N ps : List Str} {k : Nat} {sp : Sp} {oc : Value} {od an : Option Addr} {osl : Array (Option Value)} {kV doc pm ct : Value}
    (lk : K.lookup f = some ⟨oc, od, .func (PySem.W.fnOf x qual (defArgs st) (defBody st) (defScope st) .none kV doc pm an (.ref c) ct), osl⟩) (hcd : PySem.W.codeIn K (.ref c) qual = true) (S : FnScope N ps (defScope st)) (len : ∀ vs H Q E, sp vs H Q E → vs.length = ps.length)
    (hbody : ∀ (A : Around) (outer : List Env) (s : Shared) (H : Hp) (vs : List V) (Q : VK) (E : XK), Room k (A.deeper (envOfC qual (defScope st) s.heap.objs.size f (.ref c))) → sp vs H Q E →
      ∃ t, PSs (cxOf CX0 P w K mg base N qual (defScope st) f (.ref c) A outer s H E).nox (defBody st) t ∧ t { nx := fun _ H' => Q .non H', rt := Q } (L2.start N vs) H) :
    FnOk P w K mg base CX0 (k + 1) f (PySem.W.fnOf x qual (defArgs st) (defBody st) (defScope st) .none kV doc pm an (.ref c) ct) ps sp := by
  refine fn_of lk hcd S len fun A outer s H vs Q E hr hsp => ?_
  obtain ⟨t, h, q⟩ := hbody A outer s H vs Q E hr hsp
  exact ⟨t, h.nox, q⟩
/-! ### a class of refusals without a value -/
def spIni0 (K : PySem.W.Frag) (C : Addr) (nm : Str) : Sp := fun vs H Q _ => ∃ (a : Addr), vs = [.ref a] ∧ H a = some (exo a C none) ∧ ∀ d, H d = none → d ≠ a → Q .non (upd (upd H d (exd d [(("word" : Str), .str nm)])) a (exo a C (some d)))
section
variable {X : Cx} {k : Nat} {nm : Str} {C : Addr} {sp : Sp} {p pos : Pos}
theorem pmk_c0 (x : XcOk X.prog X.w X.K X.mg X.base k nm C sp) (hr : Room (k + 1) X.A) (hg : Gl X nm) (hdb : (nm == ("__debug__" : Str)) = false := by decide) : PMk X (.Call (.Name nm p) [] [] pos) (tMkO C sp [] tNil) := by
  obtain ⟨fI, fd, ps, T, iC, tI, F1, hb, hm⟩ := x
  intro pins s σ H Q I h
  obtain ⟨nm', q, N, bs, bm, sn, sub, ab, col, dd, k0, k1, k2, k3, k5, hC, hbm⟩ := T.cls
  refine wpAny_Call_Name_kw (ld_glob I hg hm ?_ hdb)
  refine PySem.W.callWith_K0 I.kIn T.kC ?_
  show wpAny _ _ (call (.ref C) []) _ _ _
  have q1 : ∀ a, H a = none → sp (.ref a :: ([] ++ [])) (upd H a (exo a C none)) _ _ := h.2
  obtain ⟨hp, g, dr, tk, os⟩ := s
  have hsz : hp.objs.size ≤ hp.objs.size + 1 := Nat.le_succ _
  have hq := q1 (hp.objs.size + 1) (I.hok.fresh hsz)
  have kk : ∀ b o, hp.get? b = some o → ((hp.push (PySem.W.kdv_tup [])).push (PySem.HandSPX.excO C hp.objs.size)).get? b = some o := fun b o e => Heap.get?_push_of_some _ (Heap.get?_push_of_some _ e)
  have hget : ((hp.push (PySem.W.kdv_tup [])).push (PySem.HandSPX.excO C hp.objs.size)).get? (hp.objs.size + 1) = some (PySem.HandSPX.excO C hp.objs.size) := by heap_get
  have I2 : Inv X pins σ (upd H (hp.objs.size + 1) (exo (hp.objs.size + 1) C none)) ⟨(hp.push (PySem.W.kdv_tup [])).push (PySem.HandSPX.excO C hp.objs.size), g, dr, tk, os⟩ :=
    I.laid (t' := tk) (a := hp.objs.size + 1) (o := exo (hp.objs.size + 1) C none) (h' := (hp.push (PySem.W.kdv_tup [])).push (PySem.HandSPX.excO C hp.objs.size)) kk hsz (exo_ok hget)
  have r2 : Vals [V.ref (hp.objs.size + 1)] [Value.ref (hp.objs.size + 1)] := .cons rfl .nil
  have hl : ([Value.ref (hp.objs.size + 1)] ++ []).length = ps.length := (F1.len _ _ _ _ hq)
  refine wpAny_call (PySem.HandSPX.call_own F.excBase_ValueError (fun Y => PySem.HandSPX.refsVE_contains Y bm hbm) (I.kIn _ _ hC) (PySem.W.looks_findIn I.kIn iC) (fun self => PySem.W.bind_fn I.kIn self tI) (Nat.zero_le _)
    (codeAny_mono (F1.run _ X.stack _ _ ⟨[Value.ref (hp.objs.size + 1)], []⟩ [Value.ref (hp.objs.size + 1)] _ _ (fun _ _ _ => False) (hr.make C [] []) (I2.env0.make C [] []) (hb _ [Value.ref (hp.objs.size + 1)] I2.kIn hl) r2 hq) fun r s' hq' => ?_))
  cases r with
  | error er => exact (show False from hq').elim
  | ok fl =>
    cases fl with
    | ret u =>
      obtain ⟨v, H2, os2, bare2, un2, hok2, rv, ev, d, fs, ea, ed, hd1, q2⟩ := hq'
      subst ev
      obtain ⟨h2, g2, d2, t2, os'⟩ := s'
      exact ⟨rv, mk_end (raises_own T.exC T.tyC) I hsz kk un2 hok2 os2 bare2 ea ed hd1 q2⟩
    | next => exact False.elim hq'
    | brk => exact False.elim hq'
    | cont => exact False.elim hq'
end
theorem mk_inner0 {K : PySem.W.Frag} {C : Addr} {nm : Str} {H1 : Hp} {Q : XK}
    (q : ∀ H' d, Same H1 H' → H1 d = none → H' d = some (.xd [(("word" : Str), .str nm)]) → Q (.ref C) (some d) H') :
    ([] : List V).length ≤ 1000 ∧ ∀ a, H1 a = none → spIni0 K C nm (.ref a :: (([] : List V) ++ [])) (upd H1 a (exo a C none))
      (fun v H2 => v = .non ∧ ∃ (d : Addr) (fs : List (Str × V)), H2 a = some (exo a C (some d)) ∧ H2 d = some (exd d fs) ∧ H1 d = none ∧ Q (.ref C) (some d) (upd (del H2 a) d (.xd fs))) (fun _ _ _ => False) := by
  refine ⟨Nat.zero_le _, fun a na => ⟨a, rfl, upd_same, fun d nd da => ⟨rfl, d, [(("word" : Str), .str nm)], upd_same, ?_, ?_, ?_⟩⟩⟩
  · rw [upd_ne da, upd_same]
  · rw [upd_ne da] at nd
    exact nd
  · rw [upd_ne da] at nd
    refine q _ d (fun b o h => ?_) nd upd_same
    have hb : b ≠ d := ne_of_none h nd
    have hba : b ≠ a := ne_of_none h na
    rw [upd_ne hb, del_ne hba, upd_ne hba, upd_ne hb, upd_ne hba]
    exact h
/-- what the law's tried makes of a lambda: told, or refused by the class at C, whose word it tells -/
def TTried (C : Addr) (nm : Str) : (XK → Hp → VK → Prop) → Hp → VK → Prop := fun tl H Q =>
  tl (fun cls d H' => cls = .ref C ∧ ∃ (dd : Addr) (fs : List (Str × V)), d = some dd ∧ H' dd = some (.xd fs) ∧ fs.lookup ("word" : Str) = some (.str nm) ∧ ∀ p, H' p = none → Q (.ref p) (upd H' p (.tup [.str "refused", .str nm]))) H
    (fun v H1 => ([V.str "told", v] : List V).length ≤ sizeLine ∧ ∀ p, H1 p = none → Q (.ref p) (upd H1 p (.tup [.str "told", v])))
/-! ### a def called by keywords alone -/
def gK {α : Type} (perm : List α → List α) : List α → List α → List α
  | [], ws => perm ws
  | _ :: _, _ => []
section
variable {X : Cx} {CX : CXT} {k : Nat} {f : Addr} {fd : FuncData} {ps ks : List Str} {sp : Sp} {E : XK} {x : Str} {p pos : Pos} {kws : List Keyword} {tk : TA} {g : List Value → List Value → List Value} {gV : List V → List V → List V}
theorem pe_callK0 (F : FnOk X.prog X.w X.K X.mg X.base CX k f fd ps sp) (hr : Room k X.A) (hg : Gl X x) (hm : X.mg x = some (.ref f)) (hk : PySem.W.keepIn X.K (.ref f) = true) (hb : KBinds X.K fd ps ks g gV) (hx : Passes CX X E) (hkw : PK X kws tk)
    (hall : ((backToKw pos (keywordEach kws X.env)).all fun x => x.1.isSome) = true := by rfl) (hks : (backToKw pos (keywordEach kws X.env)).filterMap (·.1) = ks := by rfl) (hdb : (x == ("__debug__" : Str)) = false := by decide)
    (hpl : ((backTo pos (starEach [] X.env)).any (·.1) || (backToKw pos (keywordEach kws X.env)).any fun x => x.1.isNone) = false := by rfl) : PE X (.Call (.Name x p) [] kws pos) (tCallK sp gV E tNil tk) := by
  refine ⟨fun pins s σ H Q I h => wpAny_Call_Name_kw (ld_glob I hg hm ?_ hdb)⟩
  refine PySem.W.callWith_KW0 (I.ok.mod.kin) hk hall (thn (hkw.run pos pins s σ H (fun zs H2 => sp (gV [] zs) H2 Q E) I h) fun ws s2 x => ?_) hpl
  obtain ⟨zs, H2, I2, rz, q2⟩ := x
  refine ⟨I2.kIn, ?_⟩
  rw [hks]
  exact run_fnk F hr hb hx I2 .nil rz q2
end
def CalK (P : Program) (w : World) (K : PySem.W.Frag) (mg : Str → Option Value) (base : Heap) (k : Nat) (nm : Str) (ps ks : List Str) (gV : List V → List V → List V) (sp : Sp) : Prop :=
  ∃ (f : Addr) (fd : FuncData) (g : List Value → List Value → List Value), FnOk P w K mg base (L2.CX P w) k f fd ps sp ∧ mg nm = some (.ref f) ∧ PySem.W.keepIn K (.ref f) = true ∧ KBinds K fd ps ks g gV
theorem CalK.mono {P : Program} {w : World} {K : PySem.W.Frag} {mg : Str → Option Value} {base : Heap} {j k : Nat} {nm : Str} {ps ks : List Str} {gV : List V → List V → List V} {sp : Sp} (c : CalK P w K mg base j nm ps ks gV sp) (h : j ≤ k) : CalK P w K mg base k nm ps ks gV sp := by
  obtain ⟨f, fd, g, a, b, d, e⟩ := c
  exact ⟨f, fd, g, a.mono h, b, d, e⟩
section
variable {X : Cx} {k : Nat} {ps ks : List Str} {sp : Sp} {nm : Str} {p pos : Pos} {kws : List Keyword} {tk : TA} {gV : List V → List V → List V}
theorem pe_callKF (c : CalK X.prog X.w X.K X.mg X.base k nm ps ks gV sp) (hr : Room k X.A) (hg : Gl X nm) (hkw : PK X kws tk)
    (hall : ((backToKw pos (keywordEach kws X.env)).all fun x => x.1.isSome) = true := by rfl) (hks : (backToKw pos (keywordEach kws X.env)).filterMap (·.1) = ks := by rfl) (hdb : (nm == ("__debug__" : Str)) = false := by decide)
    (hpl : ((backTo pos (starEach [] X.env)).any (·.1) || (backToKw pos (keywordEach kws X.env)).any fun x => x.1.isNone) = false := by rfl) : PE X (.Call (.Name nm p) [] kws pos) (tCallK sp gV E0 tNil tk) := by
  obtain ⟨f, fd, g, a, b, d, e⟩ := c
  exact pe_callK0 a hr hg b d e passL hkw hall hks hdb hpl
end
def two {α : Type} : List α → List α
  | [a, b] => [b, a]
  | _ => []
theorem kb_one {K : PySem.W.Frag} {x qual y : Str} {st : Stmt} {f : Addr} {fd : FuncData} (F : Fun K x qual st f fd) (h : ∀ (kV doc pm : Value) (an : Option Addr) (cdv ct : Value) (u : Value), bindArgs (PySem.W.fnOf x qual (defArgs st) (defBody st) (defScope st) .none kV doc pm an cdv ct) ⟨[], [(y, u)]⟩ = pure [(y, u)]) :
    KBinds K fd [y] [y] (gK id) (gK id) := by
  refine ⟨fun s us ws X hl M A E Q q => ?_, fun {vs us zs ws} r rz => ?_⟩
  · obtain ⟨oc, od, kV, doc, pm, an, cdv, ct, osl, rfl, _⟩ := F.ex
    cases us with
    | cons _ _ => exact absurd hl (by show 0 ≠ 1; decide)
    | nil =>
      match ws, hl with
      | [u], _ =>
        show wpAny M A (bindArgs _ ⟨[], [(y, u)]⟩) Q E s
        rw [h]
        exact wpAny_pure q
  · cases r with
    | nil => exact rz
    | cons _ _ => exact .nil
theorem kb_two {K : PySem.W.Frag} {x qual y z : Str} {st : Stmt} {f : Addr} {fd : FuncData} (F : Fun K x qual st f fd) (h : ∀ (kV doc pm : Value) (an : Option Addr) (cdv ct : Value) (u v : Value), bindArgs (PySem.W.fnOf x qual (defArgs st) (defBody st) (defScope st) .none kV doc pm an cdv ct) ⟨[], [(z, u), (y, v)]⟩ = pure [(y, v), (z, u)]) :
    KBinds K fd [y, z] [z, y] (gK two) (gK two) := by
  refine ⟨fun s us ws X hl M A E Q q => ?_, fun {vs us zs ws} r rz => ?_⟩
  · obtain ⟨oc, od, kV, doc, pm, an, cdv, ct, osl, rfl, _⟩ := F.ex
    cases us with
    | cons _ _ => exact absurd hl (by show 0 ≠ 2; decide)
    | nil =>
      match ws, hl, q with
      | [], hl, q => exact absurd hl (by show 0 ≠ 2; decide)
      | [_], hl, q => exact absurd hl (by show 0 ≠ 2; decide)
      | [u, v], _, q =>
        show wpAny M A (bindArgs _ ⟨[], [(z, u), (y, v)]⟩) Q E s
        rw [h]
        exact wpAny_pure q
      | _ :: _ :: _ :: _, hl, q => exact absurd hl (by show 0 ≠ 2; decide)
  · cases r with
    | cons _ _ => exact .nil
    | nil =>
      cases rz with
      | nil => exact .nil
      | cons a r => cases r with
        | nil => exact .nil
        | cons b r => cases r with
          | nil => exact .cons b (.cons a .nil)
          | cons _ _ => exact .nil
/-- what the law's most makes of a lambda that is refused by the class at C -/
def TMost (C : Addr) (nm : Str) : (XK → Hp → VK → Prop) → Hp → VK → Prop := fun tl H Q =>
  tl (fun cls d H' => cls = .ref C ∧ ∃ (dd : Addr) (v : V), d = some dd ∧ H' dd = some (.xd [(("most" : Str), v), (("word" : Str), .str nm)]) ∧ ∀ p, H' p = none → Q (.ref p) (upd H' p (.lst [.str nm, v]))) H (fun _ _ => False)
end WB
namespace WB
open PySem PySem.Spec PyProof.Rows L2
/-! ### lambdas that are kept in a list -/
abbrev lamO (X : Cx) (params : Arguments) (body : Expr) (scope : Scope) (pm : Value) (c' : Addr) (ctv : Value) : Obj := PySem.W.kla_obj "<lambda>" (X.env.qual ++ "<lambda>") params body scope (cloFrom X.env.cells scope.names []) pm c' ctv
section
variable {X : Cx} {pins : List (Addr × Obj)} {σ : L2.St} {H : Hp} {s : Shared}
theorem inv_pin (I : Inv X pins σ H s) (hst : X.stack = X.env :: X.outer) (hfm : X.env.frame = some X.env.locals) {f : Addr} {o : Obj} (hf : s.heap.get? f = some o) (hn : H f = none) (hfr : f ∉ frs X.stack) (hd : ∀ v, o.data ≠ .cell v) : Inv X (pins ++ [(f, o)]) σ H s := by
  have nL : f ≠ X.env.locals := fun y => hfr (List.mem_filterMap.mpr ⟨X.env, by rw [hst]; exact List.mem_cons_self, hfm.trans (congrArg some y.symm)⟩)
  have nF : f ∉ X.fs := fun hm => by
    obtain ⟨e, he, y⟩ := List.mem_filterMap.mp hm
    exact hfr (List.mem_filterMap.mpr ⟨e, by rw [hst]; exact List.mem_cons_of_mem _ he, y⟩)
  refine { I with pin := fun p hp => ?_ }
  rcases List.mem_append.mp hp with h | h
  · exact I.pin p (List.mem_append_left _ h)
  rcases List.mem_append.mp h with h | h
  · exact I.pin p (List.mem_append_right _ h)
  · rw [List.mem_singleton.mp h]
    exact ⟨hf, hn, nL, nF, hd⟩
theorem inv_unpin {l : List (Addr × Obj)} (I : Inv X (pins ++ l) σ H s) : Inv X pins σ H s := by
  refine { I with pin := fun p hp => I.pin p ?_ }
  rcases List.mem_append.mp hp with h | h
  · exact List.mem_append_left _ h
  · exact List.mem_append_right _ (List.mem_append_left _ h)
end
section
variable {X : Cx} {T : List (Addr × Str)} {c P : Addr} {params : Arguments} {body : Expr} {scope : Scope} {lpos lp py pos : Pos} {y : Str} {i : Nat} {rest : List Stmt} {u : Addr → Addr → TS}
theorem sp_back {X : Cx} {pins l : List (Addr × Obj)} {D : Ends} {fl : Flow} {s : Shared} (kk : Cx.Ok X) (h : SP (X.tr (X.pn ++ (pins ++ l)) X.xe) [] D fl s) : SP X pins D fl s := by
  cases fl with
  | next => obtain ⟨τ, G, J, q⟩ := h; exact ⟨τ, G, inv_unpin (J.ofTry kk), q⟩
  | brk => obtain ⟨τ, G, J, q⟩ := h; exact ⟨τ, G, inv_unpin (J.ofTry kk), q⟩
  | cont => obtain ⟨τ, G, J, q⟩ := h; exact ⟨τ, G, inv_unpin (J.ofTry kk), q⟩
  | ret u => obtain ⟨v, τ, G, J, r, q⟩ := h; exact ⟨v, τ, G, inv_unpin (J.ofTry kk), r, q⟩
/-- xs = [lambda: e] -/
theorem pss_lamset {q : Str} (hq : X.env.qual ++ "<lambda>" = q) (hst : X.stack = X.env :: X.outer) (hfm : X.env.frame = some X.env.locals) (hN : X.N.Nodup) (hi : X.N[i]? = some y) (hy : Loc X.env.scope y) (TB : LamX.TabB X.base X.mg c P) (hcode : X.env.code = .ref c) (hmT : (P, X.env.qual ++ "<lambda>") ∈ T)
    (hu : ∀ p ∈ T, p.1 = P → p.2 = X.env.qual ++ "<lambda>") (L : LamX.LamS X.env.scope scope) (hdef : defaultsOf params X.env = ([], []))
    (hrest : ∀ (f c' : Addr) (pm ctv : Value) (pn' : List (Addr × Obj)), f ∉ frs X.stack → (f, lamO X params body scope pm c' ctv) ∈ pn' → (∀ p ∈ X.pn, p ∈ pn') → PSs (X.tr pn' X.xe) rest (u f c'))
    (hs : swapsWith (.List [.Lambda params body scope lpos] lp) (some (.Name y py)) pos.line X.env = pure false := by rfl) (hl : X.fn y = true ∨ X.env.scope.names.lookup y = some .local := by first | exact .inr rfl | exact .inl rfl) :
    PSs X (.Assign [.Name y py] (.List [.Lambda params body scope lpos] lp) pos :: rest)
      (fun D σ H => LamX.Tabs T H ∧ ∀ (f c' : Addr) (H1 : Hp), LamX.ExtN H H1 → LamX.Tabs T H1 → H1 f = none → H1 c' = some (LamX.CodeO c' q) → ∀ p, H1 p = none → u f c' D (σ.set i (some (.ref p))) (upd H1 p (.lst [.ref f]))) := by
  refine ⟨fun pins s σ H D I h => ?_⟩
  subst hq
  obtain ⟨hT, h⟩ := h
  have kk := I.ok
  refine wpAny_execs_cons (wpAny_Assign_Name (wpAny_List_spliced ?_) hs)
  show wpAny _ _ (spliced [(false, _)]) _ _ _
  refine Calls.spliced_cons (LamX.lam_make2 I TB hcode hmT hu hT hdef (L.has I.ok) fun f c' pm ctv H1 s' I1 eN T1 hf hfn hfr hco => Calls.spliced_nil ⟨(by show 1 ≤ sizeLine; decide), ?_⟩)
  have I2 := inv_pin I1 hst hfm hf hfn hfr (fun v z => by cases z)
  have hfresh := I2.hok.fresh (Nat.le_refl s'.heap.objs.size)
  have I3 : Inv X (pins ++ [(f, lamO X params body scope pm c' ctv)]) σ (upd H1 s'.heap.objs.size (.lst [.ref f])) { s' with heap := s'.heap.push { cls := .type "list", data := .seq (List.toArray [Value.ref f]) } } :=
    I2.laid (t' := s'.toks) (fun b w e => Heap.get?_push_of_some _ e) (Nat.le_refl _) ⟨(by show 1 ≤ sizeLine; decide), [Value.ref f], 0, .cons rfl .nil, Heap.get?_push_size s'.heap rfl⟩
  refine store_ok (v := .ref s'.heap.objs.size) I3 hN hi hy rfl (fun s2 I4 => ?_) hl
  have kr := (hrest f c' pm ctv (X.pn ++ (pins ++ [(f, lamO X params body scope pm c' ctv)])) hfr (List.mem_append_right _ (List.mem_append_right _ (.head _))) (fun p hp => List.mem_append_left _ hp)).run [] s2 _ _ D (I4.toTry X.xe) (h f c' H1 eN T1 hfn hco _ hfresh)
  exact wpAny_mono kr (fun fl z hsp => sp_back kk hsp) (fun _ _ y => y)
variable {p1 p2 p3 p4 : Pos}
/-- xs.append(lambda: e) -/
theorem pss_lamapp {q : Str} (hq : X.env.qual ++ "<lambda>" = q) (hst : X.stack = X.env :: X.outer) (hfm : X.env.frame = some X.env.locals) (hv : PE X (.Name y p1) (tVar i)) (TB : LamX.TabB X.base X.mg c P) (hcode : X.env.code = .ref c) (hmT : (P, X.env.qual ++ "<lambda>") ∈ T)
    (hu : ∀ p ∈ T, p.1 = P → p.2 = X.env.qual ++ "<lambda>") (L : LamX.LamS X.env.scope scope) (hdef : defaultsOf params X.env = ([], []))
    (hrest : ∀ (f c' : Addr) (pm ctv : Value) (pn' : List (Addr × Obj)), f ∉ frs X.stack → (f, lamO X params body scope pm c' ctv) ∈ pn' → (∀ p ∈ X.pn, p ∈ pn') → PSs (X.tr pn' X.xe) rest (u f c'))
    (hbase : attributeBase (.Name y p1) "append" X.env (eval (.Name y p1) X.env) = eval (.Name y p1) X.env := by rfl) (hline : (p2.endLine == p3.line) = true := by rfl)
    (hs : swapsWith (.Call (.Attribute (.Name y p1) "append" p2) [.Lambda params body scope lpos] [] p3) none p4.line X.env = pure false := by rfl) :
    PSs X (.Expr (.Call (.Attribute (.Name y p1) "append" p2) [.Lambda params body scope lpos] [] p3) p4 :: rest)
      (fun D σ H => LamX.Tabs T H ∧ ∃ p xs, σ[i]? = some (some (.ref p)) ∧ H p = some (.lst xs) ∧ xs.length < sizeLine ∧ ∀ (f c' : Addr) (H1 : Hp), LamX.ExtN H H1 → LamX.Tabs T H1 → H1 f = none → H1 c' = some (LamX.CodeO c' q) → u f c' D σ (upd H1 p (.lst (xs ++ [.ref f])))) := by
  refine ⟨fun pins s σ H D I h => ?_⟩
  subst hq
  obtain ⟨hT, p, xs, hσ, hp, hz, h⟩ := h
  have kk := I.ok
  refine wpAny_execs_cons (wpAny_Expr_any ?_ I.quiet hs)
  refine wpAny_Call_method_late (trees := [(false, _)]) hbase (by rfl) hline rfl (thn (hv.run pins s σ H (fun x H1 => x = .ref p ∧ H1 = H) I ⟨_, hσ, rfl, rfl⟩) fun v s1 x => ?_)
  obtain ⟨x, H1, I1, r1, rfl, rfl⟩ := x
  obtain ⟨h1, h2⟩ := tyV_is (T := "list") I1 r1 (.inl ⟨rfl, xs, SqL.of hp⟩)
  refine ⟨"list", "list.append", PySem.F.plainAttrs_list, PySem.F.slot_list_append, PySem.F.type_list_append, h1, h2, ?_⟩
  refine Calls.callWith_builtin (by rfl) (Calls.evalArgs_plain ?_)
  refine Calls.spliced_cons (LamX.lam_make2 I1 TB hcode hmT hu hT hdef (L.has I1.ok) fun f c' pm ctv H2 s' I2 eN T2 hf hfn hfr hco => Calls.spliced_nil ?_)
  have I3 := inv_pin I2 hst hfm hf hfn hfr (fun v z => by cases z)
  have hp2 := eN _ _ hp (fun ps z => by cases z)
  refine thn (mt_append (X := X) (pins ++ [(f, lamO X params body scope pm c' ctv)]) s' σ H2 (.ref p) [.ref f] v [Value.ref f] (fun v H' => H' = upd H2 p (.lst (xs ++ [.ref f]))) I3 r1 (.cons rfl .nil) ⟨p, xs, .ref f, rfl, rfl, hp2, hz, rfl⟩) fun w s2 x => ?_
  obtain ⟨w', H', I4, r4, rfl⟩ := x
  have kr := (hrest f c' pm ctv (X.pn ++ (pins ++ [(f, lamO X params body scope pm c' ctv)])) hfr (List.mem_append_right _ (List.mem_append_right _ (.head _))) (fun p hp => List.mem_append_left _ hp)).run [] s2 _ _ D (I4.toTry X.xe) (h f c' H2 eN T2 hfn hco)
  exact wpAny_mono kr (fun fl z hsp => sp_back kk hsp) (fun _ _ y => y)
end
section
variable {X : Cx} {TT : (XK → Hp → VK → Prop) → Hp → VK → Prop} {x a : Str} {g f c' : Addr} {k : Nat} {pg : Arguments} {bg : List Stmt} {sg : Scope} {dV kV doc pm cdv ct oc pm' ctv : Value} {an od : Option Addr} {osl : Array (Option Value)} {Ng : List Str}
  {params : Arguments} {body ea : Expr} {scope : Scope} {t : XK → TE} {p pos : Pos} {j : Nat}
/-- g(x), where x is a lambda that was kept -/
theorem pe_actname {q : Str} (hq : X.env.qual ++ "<lambda>" = q) (hpin : (f, lamO X params body scope pm' c' ctv) ∈ X.pn) (hfr : f ∉ frs X.stack) (hg : Gl X x) (hm : X.mg x = some (.ref g)) (hk : PySem.W.keepIn X.K (.ref g) = true) (lk : X.K.lookup g = some ⟨oc, od, .func (PySem.W.fnOf x x pg bg sg dV kV doc pm an cdv ct), osl⟩)
    (hcg : PySem.W.codeIn X.K cdv x = true) (hb : L2.Binds X.K (PySem.W.fnOf x x pg bg sg dV kV doc pm an cdv ct) [a] []) (Sg : FnScope Ng [a] sg) (hNg : Ng[0]? = some a) (hva : Vis sg a) (hG : LamX.GivesTo X Ng x sg g cdv bg a (X.env.qual ++ "<lambda>") TT)
    (hr : Room (k + 2) X.A) (L : LamX.LamS X.env.scope scope) (hbind : ∀ (q : Str) (cl : List (Str × Addr)) (pm cv ctv : Value), bindArgs (PySem.W.kla_fn "<lambda>" q params body scope cl pm cv ctv) ⟨[], []⟩ = pure [])
    (hbody : ∀ (A : Around) (outer : List Env) (s : Shared) (H : Hp) (E : XK) (f c' : Addr), Room k (A.deeper (LamX.lamEnv X scope s.heap.objs.size f c')) → PE (LamX.lamCx X A outer s H E scope f c') body (t E)) (ha : PE X ea (tVar j))
    (hdb : (x == ("__debug__" : Str)) = false := by decide) (hd : (a == ("__debug__" : Str)) = false := by decide) (hcd : (a == ("__classdict__" : Str)) = false := by decide)
    (he : starEach [ea] X.env = (false, eval ea X.env) :: starEach [] X.env := by rfl) (hpl : (backTo pos (starEach [] X.env)).any (·.1) = false := by rfl) :
    PE X (.Call (.Name x p) [ea] [] pos) (fun σ H Q => σ[j]? = some (some (.ref f)) ∧ H c' = some (LamX.CodeO c' q) ∧ TT (fun E H' Q' => t E σ H' Q') H Q) := by
  refine ⟨fun pins s σ H Q I h => wpAny_Call_Name_kw (ld_glob I hg hm (PySem.W.callWith_K I.ok.mod.kin hk ?_ he hpl) hdb)⟩
  subst hq
  obtain ⟨hσ, hco, hT⟩ := h
  refine thn ((pa_cons ha pa_nil he).run pos pins s σ H (fun vs H1 => vs = [.ref f] ∧ H1 = H) I ⟨_, hσ, rfl, rfl⟩) fun us s1 y => ?_
  obtain ⟨vs, H1, I1, r1, rfl, rfl⟩ := y
  obtain ⟨w, rfl, rw_⟩ := r1.one
  have rw2 : w = Value.ref f := rw_
  subst rw2
  refine ⟨I1.kIn, ?_⟩
  obtain ⟨hf, hfn, _⟩ := I1.pin _ (List.mem_append_left _ hpin)
  have rc := LamX.run_ofS (CX := C8.CX0) (E := C8.E0) (Q := Q) lk hcg Sg hr I1.env0 (hb s1 [Value.ref f] I1.kIn rfl) (show Vals [V.ref f] [Value.ref f] from .cons rfl .nil) rfl (fun hr' => by
    obtain ⟨t', ht', hq'⟩ := hG f c' s1 H1 Q (fun E H' Q' => t E σ H' Q') (fun W pn xe E p1 p2 tk hW => LamX.pe_act I1 L hf hfn hfr (hbind _ _ _ _ _) tk hW hr' (fun A outer s H hr2 => hbody A outer s H E f c' hr2) hNg hva hd hcd) hco hT
    exact ⟨t', ht'.nox, hq'⟩)
  refine wpAny_call (codeAny_mono rc fun r s2 hq => ?_)
  cases r with
  | error e => exact (show False from hq).elim
  | ok fl =>
    cases fl with
    | next => exact (show False from hq).elim
    | brk => exact (show False from hq).elim
    | cont => exact (show False from hq).elim
    | ret u => exact I1.after hq
theorem pe_or2 {X : Cx} {e : Expr} {t u : TE} (h1 : PE X e t) (h2 : PE X e u) : PE X e (fun σ H Q => t σ H Q ∨ u σ H Q) := ⟨fun pins s σ H Q I h => h.elim (fun h => h1.run pins s σ H Q I h) (fun h => h2.run pins s σ H Q I h)⟩
end
end WB
namespace WB
open PySem PySem.Spec PyProof.Rows L2
/-! ### objects: fields, methods, new ones -/
section
variable {X : Cx} (K : PySem.W.Frag) {e o value : Expr} {f : Str} {pos pos' tpos : Pos} {ta tv : TE} {op : Operator} {rd : V → V → Hp → VK → Prop}
theorem pe_fldK (h : X.K = K) (he : PE X e ta) (hb : attributeBase e f X.env (eval e X.env) = eval e X.env := by rfl) : PE X (.Attribute e f pos) (tFld K ta f) := by subst h; exact pe_fld he hb
theorem ps_fldK (h : X.K = K) (ho : PE X o ta) (hv : PE X value tv) (hs : swapsWith value (some (.Attribute o f pos')) pos.line X.env = pure false := by rfl) : PS X (.Assign [.Attribute o f pos'] value pos) (sFld K ta tv f) := by subst h; exact ps_fld ho hv hs
theorem ps_fldaugK (h : X.K = K) (ho : PE X o ta) (hv : PE X value tv) (hop : InOp X op rd) : PS X (.AugAssign (.Attribute o f tpos) op value pos) (sFldAug K ta tv rd f) := by subst h; exact ps_fldaug ho hv hop
def rTupK (K : PySem.W.Frag) : List V → Hp → VK → Prop := fun xs H Q => ∃ p ys, xs = [.ref p] ∧ ((SqL K H p ys ∧ ∀ l, H l = none → Q (.ref l) (upd H l (.tup ys))) ∨ (SqT K H p ys ∧ Q (.ref p) H))
theorem call_tupleK (h : X.K = K) : CallR X (.type "tuple") (rTupK K) := by subst h; exact call_tuple_of
end
/-- a method of the class at C -/
def CalM (CX : CXT) (P : Program) (w : World) (K : PySem.W.Frag) (mg : Str → Option Value) (base : Heap) (k : Nat) (C : Addr) (m : Str) (ps : List Str) (sp : Sp) : Prop :=
  ∃ (f : Addr) (fd : FuncData), Cls K C ∧ Meth K C m f ∧ FnOk P w K mg base CX k f fd ps sp ∧ Binds K fd ps []
theorem CalM.mono {CX : CXT} {P : Program} {w : World} {K : PySem.W.Frag} {mg : Str → Option Value} {base : Heap} {j k : Nat} {C : Addr} {m : Str} {ps : List Str} {sp : Sp} (c : CalM CX P w K mg base j C m ps sp) (h : j ≤ k) : CalM CX P w K mg base k C m ps sp := by
  obtain ⟨f, fd, a, b, d, e⟩ := c
  exact ⟨f, fd, a, b, d.mono h, e⟩
/-- new things of the class at C -/
def CalN (P : Program) (w : World) (K : PySem.W.Frag) (mg : Str → Option Value) (base : Heap) (k : Nat) (nm : Str) (C : Addr) (ps : List Str) (sp : Sp) : Prop :=
  ∃ (f : Addr) (fd : FuncData), Mk K C f ∧ FnOk P w K mg base CX0 k f fd ps sp ∧ mg nm = some (.ref C) ∧ Binds K fd ps []
theorem CalN.mono {P : Program} {w : World} {K : PySem.W.Frag} {mg : Str → Option Value} {base : Heap} {j k : Nat} {nm : Str} {C : Addr} {ps : List Str} {sp : Sp} (c : CalN P w K mg base j nm C ps sp) (h : j ≤ k) : CalN P w K mg base k nm C ps sp := by
  obtain ⟨f, fd, a, b, d, e⟩ := c
  exact ⟨f, fd, a, b.mono h, d, e⟩
section
variable {X : Cx} {k : Nat} {C : Addr} {m nm : Str} {ps : List Str} {sp : Sp} {E : XK} {pos apos p : Pos} {e o : Expr} {es : List Expr} {ta : TE} {t : TA} {pl : Sem Bool}
theorem pe_methC (ho : PE X o ta) (c : CalM CX0 X.prog X.w X.K X.mg X.base k C m ps sp) (hr : Room k X.A) (ha : PA X (e :: es) t) (hs : starEach (e :: es) X.env = (false, eval e X.env) :: starEach es X.env := by rfl) (hpl : (backTo pos (starEach es X.env)).any (·.1) = false := by rfl)
    (hc : eval (.Call (.Attribute o m apos) (e :: es) [] pos) X.env = (do
      let ov ← eval o X.env
      standAt apos.atName
      let (f, first) ← holding [ov] (getMethod ov m pl)
      callWith pos f first (backTo pos (starEach (e :: es) X.env)) (backToKw pos (keywordEach [] X.env))) := by rfl) : PE X (.Call (.Attribute o m apos) (e :: es) [] pos) (tMeth C m sp [] E0 ta t) := by
  obtain ⟨f, fd, a, b, d, g⟩ := c
  exact pe_meth ho a b d hr g .nil pass0 ha hs hpl hc
theorem pe_methC0 (ho : PE X o ta) (c : CalM CX0 X.prog X.w X.K X.mg X.base k C m ps sp) (hr : Room k X.A)
    (hc : eval (.Call (.Attribute o m apos) [] [] pos) X.env = (do
      let ov ← eval o X.env
      standAt apos.atName
      let (f, first) ← holding [ov] (getMethod ov m pl)
      callWith pos f first (backTo pos (starEach [] X.env)) (backToKw pos (keywordEach [] X.env))) := by rfl) : PE X (.Call (.Attribute o m apos) [] [] pos) (tMeth C m sp [] E0 ta tNil) := by
  obtain ⟨f, fd, a, b, d, g⟩ := c
  exact pe_meth0 ho a b d hr g .nil pass0 hc
/-- a method that may let an exception out, where it lets out none -/
theorem pe_methF (ho : PE X o ta) (c : CalM (L2.CX X.prog X.w) X.prog X.w X.K X.mg X.base k C m ps sp) (hr : Room k X.A) (ha : PA X (e :: es) t) (hs : starEach (e :: es) X.env = (false, eval e X.env) :: starEach es X.env := by rfl) (hpl : (backTo pos (starEach es X.env)).any (·.1) = false := by rfl)
    (hc : eval (.Call (.Attribute o m apos) (e :: es) [] pos) X.env = (do
      let ov ← eval o X.env
      standAt apos.atName
      let (f, first) ← holding [ov] (getMethod ov m pl)
      callWith pos f first (backTo pos (starEach (e :: es) X.env)) (backToKw pos (keywordEach [] X.env))) := by rfl) : PE X (.Call (.Attribute o m apos) (e :: es) [] pos) (tMeth C m sp [] E0 ta t) := by
  obtain ⟨f, fd, a, b, d, g⟩ := c
  exact pe_meth ho a b d hr g .nil passL ha hs hpl hc
theorem pe_methP (ho : PE X o ta) (c : CalM (L2.CX X.prog X.w) X.prog X.w X.K X.mg X.base k C m ps sp) (hr : Room k X.A) (hx : Passes (L2.CX X.prog X.w) X E) (ha : PA X (e :: es) t) (hs : starEach (e :: es) X.env = (false, eval e X.env) :: starEach es X.env := by rfl) (hpl : (backTo pos (starEach es X.env)).any (·.1) = false := by rfl)
    (hc : eval (.Call (.Attribute o m apos) (e :: es) [] pos) X.env = (do
      let ov ← eval o X.env
      standAt apos.atName
      let (f, first) ← holding [ov] (getMethod ov m pl)
      callWith pos f first (backTo pos (starEach (e :: es) X.env)) (backToKw pos (keywordEach [] X.env))) := by rfl) : PE X (.Call (.Attribute o m apos) (e :: es) [] pos) (tMeth C m sp [] E ta t) := by
  obtain ⟨f, fd, a, b, d, g⟩ := c
  exact pe_meth ho a b d hr g .nil hx ha hs hpl hc
theorem pe_makeC0 (c : CalN X.prog X.w X.K X.mg X.base k nm C ps sp) (hr : Room (k + 1) X.A) (hg : Gl X nm) (hdb : (nm == ("__debug__" : Str)) = false := by decide) : PE X (.Call (.Name nm p) [] [] pos) (tMake C sp [] E0 tNil) := by
  obtain ⟨f, fd, a, b, d, g⟩ := c
  exact pe_make0 a b hr hg d g .nil pass0 hdb
end
/-! ### heaps that keep their lists -/
/-- lists, tuples and what is held still stay -/
def Lk (H H' : Hp) : Prop := ∀ a o, H a = some o → (∃ xs, o = .lst xs) ∨ (∃ xs, o = .tup xs) ∨ (∃ u v, o = .frz u v) → H' a = some o
section
variable {K : PySem.W.Frag}
theorem lk_l {H H' : Hp} {a : Addr} {xs : List V} (e : Lk H H') (h : SqL K H a xs) : SqL K H' a xs := by
  rcases h with (h | ⟨o, h⟩) | h
  · exact .inl (.inl (e _ _ h (.inl ⟨_, rfl⟩)))
  · exact .inl (.inr ⟨o, e _ _ h (.inr (.inr ⟨_, _, rfl⟩))⟩)
  · exact .inr h
theorem lk_t {H H' : Hp} {a : Addr} {xs : List V} (e : Lk H H') (h : SqT K H a xs) : SqT K H' a xs := by
  rcases h with (h | ⟨o, h⟩) | h
  · exact .inl (.inl (e _ _ h (.inr (.inl ⟨_, rfl⟩))))
  · exact .inl (.inr ⟨o, e _ _ h (.inr (.inr ⟨_, _, rfl⟩))⟩)
  · exact .inr h
mutual
theorem dp_lk {H H' : Hp} (e : Lk H H') : ∀ {d : PyData} {x : V}, Dp K H x d → Dp K H' x d
  | _, _, .non => .non
  | _, _, .bl b => .bl b
  | _, _, .int i => .int i
  | _, _, .str s => .str s
  | _, _, .lst hs ha => .lst (lk_l e hs) (dpa_lk e ha)
  | _, _, .tup hs ha => .tup (lk_t e hs) (dpa_lk e ha)
theorem dpa_lk {H H' : Hp} (e : Lk H H') : ∀ {ds : List PyData} {xs : List V}, DpAll K H xs ds → DpAll K H' xs ds
  | _, _, .nil => .nil
  | _, _, .cons h t => .cons (dp_lk e h) (dpa_lk e t)
end
theorem lk_mv {b : Addr} {H H' : Hp} (m : Mv b H H') (h : ∀ o, H b = some o → ¬ ((∃ xs, o = .lst xs) ∨ (∃ xs, o = .tup xs) ∨ (∃ u v, o = .frz u v))) : Lk H H' := fun a o e k => m a o (fun z => by subst z; exact h o e k) e
theorem lk_same {H H' : Hp} (s : Same H H') : Lk H H' := fun a o e _ => s a o e
end
end WB
namespace WB
open PySem PySem.Spec PyProof.Rows L2
/-! ### things that stand apart in the heap -/
/-- all but what stands at F stays, and nothing vanishes -/
structure MvF (F : List Addr) (H H' : Hp) : Prop where
  kp : ∀ a o, a ∉ F → H a = some o → H' a = some o
  al : ∀ a, H' a = none → H a = none
theorem al_same {H H' : Hp} (s : Same H H') : ∀ a, H' a = none → H a = none := fun _ h => s.free h
theorem al_upd {H H' : Hp} {p : Addr} {o : HO} (s : ∀ a, H' a = none → H a = none) : ∀ a, upd H' p o a = none → H a = none := fun a h => by
  by_cases z : a = p
  · rw [z, upd_same] at h
    cases h
  · rw [upd_ne z] at h
    exact s a h
theorem al_mv {H H' : Hp} {p : Addr} {o : HO} (m : Mv p H H') (e : H' p = some o) : ∀ a, H' a = none → H a = none := fun a h => by
  by_cases z : a = p
  · rw [z, e] at h
    cases h
  · exact m.none z h
section
variable {F : List Addr} {H H' H1 H2 : Hp}
theorem MvF.refl (F : List Addr) (H : Hp) : MvF F H H := ⟨fun _ _ _ h => h, fun _ h => h⟩
theorem MvF.of (s : Same H H') : MvF F H H' := ⟨fun a o _ h => s a o h, al_same s⟩
theorem MvF.mv {p : Addr} {o : HO} (m : Mv p H H') (e : H' p = some o) (hp : p ∈ F) : MvF F H H' := ⟨fun a u n h => m a u (fun z => n (z ▸ hp)) h, al_mv m e⟩
theorem MvF.trans (m : MvF F H H1) (m' : MvF F H1 H2) : MvF F H H2 := ⟨fun a o n h => m'.kp a o n (m.kp a o n h), fun a h => m.al a (m'.al a h)⟩
theorem MvF.upd {p : Addr} {o : HO} (m : MvF F H H') (hp : p ∈ F) : MvF F H (L2.upd H' p o) := ⟨fun a u n h => by rw [upd_ne (fun z : a = p => n (by rw [z]; exact hp))]; exact m.kp a u n h, al_upd m.al⟩
theorem MvF.wide {G : List Addr} (m : MvF F H H') (h : ∀ a ∈ F, a ∈ G) : MvF G H H' := ⟨fun a o n e => m.kp a o (fun z => n (h a z)) e, m.al⟩
/-- where the second one's places are the first one's, or new -/
theorem MvF.trans2 {G : List Addr} (m : MvF F H H1) (m' : MvF G H1 H2) (hg : ∀ a ∈ G, a ∈ F ∨ H a = none) : MvF F H H2 := by
  refine ⟨fun a o n e => m'.kp a o (fun z => ?_) (m.kp a o n e), fun a h => m.al a (m'.al a h)⟩
  rcases hg a z with y | y
  · exact n y
  · rw [y] at e
    cases e
theorem MvF.same (m : MvF F H H') (s : Same H' H1) : MvF F H H1 := m.trans (.of s)
theorem MvF.new (m : MvF F H H') {p : Addr} {o : HO} (n : H' p = none) : MvF F H (L2.upd H' p o) := m.same (same_upd n)
theorem MvF.free (m : MvF F H H') {p : Addr} (h : H' p = none) : H p = none := m.al p h
theorem MvF.toSame (m : MvF [] H H') : Same H H' := fun a o h => m.kp a o List.not_mem_nil h
end
/-- no table of code, no thing of the machine's own -/
def plain : HO → Prop
  | .tbl _ => False
  | .ext _ => False
  | _ => True
structure Th where
  ft : List Addr
  P : Hp → Prop
  loc : ∀ H H' : Hp, (∀ a ∈ ft, ∀ o, H a = some o → H' a = some o) → P H → P H'
  al : ∀ H, P H → ∀ a ∈ ft, ∃ o, H a = some o ∧ plain o
/-- these things stand apart, and the tables of code are as they were -/
structure Hs (T : List (Addr × Str)) (Ts : List Th) (H : Hp) : Prop where
  all : ∀ (i : Nat) (T : Th), Ts[i]? = some T → T.P H
  sep : ∀ (i j : Nat) (x y : Th), i ≠ j → Ts[i]? = some x → Ts[j]? = some y → ∀ a ∈ x.ft, a ∉ y.ft
  tab : LamX.Tabs T H
theorem Th.live (T : Th) {H : Hp} (h : T.P H) {a : Addr} (ha : a ∈ T.ft) : H a ≠ none := by
  obtain ⟨o, e, _⟩ := T.al H h a ha
  rw [e]
  exact fun z => nomatch z
theorem tabs_keep {T : List (Addr × Str)} {H H' : Hp} (t : LamX.Tabs T H) (h : ∀ a o, H a = some o → ¬ plain o → H' a = some o) : LamX.Tabs T H' := fun p hp => by
  obtain ⟨ps, h1, h2, h3⟩ := t p hp
  refine ⟨ps, h _ _ h1 (fun z => z), h2, fun pos cv hc => ?_⟩
  obtain ⟨c, e1, e2⟩ := h3 pos cv hc
  exact ⟨c, e1, h _ _ e2 (fun z => z)⟩
section
variable {T0 : List (Addr × Str)} {Ts Ts' : List Th} {T T' N : Th} {H H' : Hp}
theorem Hs.nil (t : LamX.Tabs T0 H) : Hs T0 [] H := ⟨fun i T h => (by cases h), fun i j x y _ h => (by cases h), t⟩
theorem Hs.nil0 : Hs [] [] H := .nil (fun p hp => absurd hp List.not_mem_nil)
theorem Hs.get (h : Hs T0 Ts H) (i : Nat) (hi : Ts[i]? = some T) : T.P H := h.all i T hi
theorem Hs.same (h : Hs T0 Ts H) (s : Same H H') : Hs T0 Ts H' := ⟨fun i T hi => T.loc H H' (fun a _ o e => s a o e) (h.all i T hi), h.sep, h.tab.ext s⟩
/-- a lambda was made -/
theorem Hs.extN (h : Hs T0 Ts H) (e : LamX.ExtN H H') (t : LamX.Tabs T0 H') : Hs T0 Ts H' := ⟨fun i T hi => T.loc H H' (fun a ha o q => e a o q (fun ps z => by
  obtain ⟨o', e1, e2⟩ := T.al H (h.all i T hi) a ha
  rw [e1] at q
  cases q
  rw [z] at e2
  exact e2)) (h.all i T hi), h.sep, t⟩
theorem Hs.ne (h : Hs T0 Ts H) (i j : Nat) {x y : Th} (hi : Ts[i]? = some x) (hj : Ts[j]? = some y) {a b : Addr} (ha : a ∈ x.ft) (hb : b ∈ y.ft) (n : i ≠ j := by decide) : a ≠ b := fun z => h.sep i j x y n hi hj a ha (z ▸ hb)
theorem Hs.keep (h : Hs T0 Ts H) {i j : Nat} {x : Th} {F : List Addr} (hi : Ts[i]? = some T) (hj : Ts[j]? = some x) (n : j ≠ i) (m : MvF F H H') (hF : ∀ a ∈ F, a ∈ T.ft ∨ H a = none) : x.P H' := by
  refine x.loc H H' (fun a ha o e => m.kp a o (fun z => ?_) e) (h.all j x hj)
  rcases hF a z with y | y
  · exact h.sep j i x T n hj hi a ha y
  · rw [y] at e
    cases e
theorem Hs.op {F : List Addr} (h : Hs T0 Ts H) (i : Nat) (hi : Ts[i]? = some T) (m : MvF F H H') (hF : ∀ a ∈ F, a ∈ T.ft ∨ H a = none) (hp : T'.P H') (hf : ∀ a ∈ T'.ft, a ∈ T.ft ∨ H a = none) : Hs T0 (Ts.set i T') H' := by
  have hil : i < Ts.length := (List.getElem?_eq_some_iff.mp hi).1
  have new : ∀ (j : Nat) (y : Th), j ≠ i → Ts[j]? = some y → ∀ a ∈ T'.ft, a ∉ y.ft := fun j y n hj a ha z => by
    rcases hf a ha with q | q
    · exact h.sep i j T y n.symm hi hj a q z
    · exact y.live (h.all j y hj) z q
  refine ⟨fun j x hj => ?_, fun j k x y n hj hk => ?_, tabs_keep h.tab fun a o e np => m.kp a o (fun z => ?_) e⟩
  · rw [List.getElem?_set] at hj
    by_cases z : i = j
    · rw [if_pos z, if_pos (z ▸ hil)] at hj
      cases hj
      exact hp
    · rw [if_neg z] at hj
      exact h.keep hi hj (fun q => z q.symm) m hF
  · rw [List.getElem?_set] at hj hk
    by_cases z : i = j
    · rw [if_pos z, if_pos (z ▸ hil)] at hj
      rw [if_neg (fun q => n (z.symm.trans q))] at hk
      cases hj
      exact new k y (fun q => n (z.symm.trans q.symm)) hk
    · rw [if_neg z] at hj
      by_cases z2 : i = k
      · rw [if_pos z2, if_pos (z2 ▸ hil)] at hk
        cases hk
        exact fun a ha hb => new j x (fun q => z q.symm) hj a hb ha
      · rw [if_neg z2] at hk
        exact h.sep j k x y n hj hk
  · rcases hF a z with y | y
    · obtain ⟨o', e1, e2⟩ := T.al H (h.all i T hi) a y
      rw [e1] at e
      cases e
      exact np e2
    · rw [y] at e
      cases e
theorem Hs.cons (h : Hs T0 Ts H) (hp : T.P H) (hf : ∀ (j : Nat) (y : Th), Ts[j]? = some y → ∀ a ∈ T.ft, a ∉ y.ft) : Hs T0 (T :: Ts) H := by
  refine ⟨fun j x hj => ?_, fun j k x y n hj hk => ?_, h.tab⟩
  · cases j with
    | zero => cases hj; exact hp
    | succ j => exact h.all j x hj
  · cases j with
    | zero =>
      cases hj
      cases k with
      | zero => exact absurd rfl n
      | succ k => exact hf k y hk
    | succ j =>
      cases k with
      | zero =>
        cases hk
        exact fun a ha hb => hf j x hj a hb ha
      | succ k => exact h.sep j k x y (fun q => n (congrArg (· + 1) q)) hj hk
theorem Hs.new (h : Hs T0 Ts H) (s : Same H H') (hp : T.P H') (hf : ∀ a ∈ T.ft, H a = none) : Hs T0 (T :: Ts) H' :=
  (h.same s).cons hp fun j y hj a ha hb => y.live (h.all j y hj) hb (hf a ha)
/-- a thing changes, and a new one comes -/
theorem Hs.opNew {F : List Addr} (h : Hs T0 Ts H) (i : Nat) (hi : Ts[i]? = some T) (m : MvF F H H') (hF : ∀ a ∈ F, a ∈ T.ft ∨ H a = none) (hp : T'.P H') (hf : ∀ a ∈ T'.ft, a ∈ T.ft ∨ H a = none) (hn : N.P H') (hnf : ∀ a ∈ N.ft, H a = none ∧ a ∉ T'.ft) : Hs T0 (N :: Ts.set i T') H' := by
  refine (h.op i hi m hF hp hf).cons hn fun j y hj a ha hb => ?_
  rw [List.getElem?_set] at hj
  by_cases z : i = j
  · rw [if_pos z, if_pos (z ▸ (List.getElem?_eq_some_iff.mp hi).1)] at hj
    cases hj
    exact (hnf a ha).2 hb
  · rw [if_neg z] at hj
    exact y.live (h.all j y hj) hb (hnf a ha).1
/-- these places of the list, in this order -/
def pickTs (Ts : List Th) : List Nat → List Th
  | [] => []
  | i :: r => match Ts[i]? with
    | some x => x :: pickTs Ts r
    | none => pickTs Ts r
theorem mem_pick : ∀ {is : List Nat} {k : Nat} {x : Th}, (pickTs Ts is)[k]? = some x → ∃ i ∈ is, Ts[i]? = some x
  | [], k, x, h => by cases h
  | i :: r, k, x, h => by
    unfold pickTs at h
    cases e : Ts[i]? with
    | none =>
      rw [e] at h
      obtain ⟨j, hj, q⟩ := mem_pick h
      exact ⟨j, .tail _ hj, q⟩
    | some y =>
      rw [e] at h
      cases k with
      | zero => cases h; exact ⟨i, .head _, e⟩
      | succ k =>
        obtain ⟨j, hj, q⟩ := mem_pick (k := k) h
        exact ⟨j, .tail _ hj, q⟩
theorem Hs.sel (h : Hs T0 Ts H) : ∀ (is : List Nat), is.Nodup → Hs T0 (pickTs Ts is) H
  | [], _ => .nil h.tab
  | i :: r, hn => by
    have hn := List.nodup_cons.mp hn
    have t := h.sel r hn.2
    unfold pickTs
    cases e : Ts[i]? with
    | none => exact t
    | some x =>
      refine t.cons (h.all i x e) fun j y hj => ?_
      obtain ⟨k, hk, q⟩ := mem_pick hj
      exact h.sep i k x y (fun z => hn.1 (z ▸ hk)) e q
theorem Hs.tail {x : Th} (h : Hs T0 (x :: Ts) H) : Hs T0 Ts H := ⟨fun i T hi => h.all (i + 1) T hi, fun i j x y n hi hj => h.sep (i + 1) (j + 1) x y (by omega) hi hj, h.tab⟩
theorem Hs.head {x : Th} (h : Hs T0 (x :: Ts) H) : x.P H := h.all 0 x rfl
theorem Hs.apart {x y : Th} (h : Hs T0 (x :: Ts) H) (hy : y ∈ Ts) : ∀ a ∈ x.ft, a ∉ y.ft := by
  obtain ⟨j, hj⟩ := List.getElem?_of_mem hy
  exact h.sep 0 (j + 1) x y (by omega) rfl hj
theorem Hs.swap {x y : Th} (h : Hs T0 (x :: y :: Ts) H) : Hs T0 (y :: x :: Ts) H :=
  (h.tail.tail.cons h.head fun j z hj => h.apart (.tail _ (List.mem_of_getElem? hj))).cons h.tail.head fun j z hj a ha hb => by
    rcases List.mem_cons.mp (List.mem_of_getElem? hj) with rfl | hm
    · exact h.apart (.head _) a hb ha
    · exact h.tail.apart hm a ha hb
theorem Hs.perm (p : Ts.Perm Ts') : ∀ {H : Hp}, Hs T0 Ts H → Hs T0 Ts' H := by
  induction p with
  | nil => exact fun h => h
  | cons x q ih => exact fun h => (ih h.tail).cons h.head fun j y hj => h.apart (q.mem_iff.mpr (List.mem_of_getElem? hj))
  | swap x y l => exact fun h => h.swap
  | trans _ _ ih1 ih2 => exact fun h => ih2 (ih1 h)
/-- two things seen as one -/
theorem Hs.merge {A B C : Th} (h : Hs T0 (A :: B :: Ts) H) (hp : C.P H) (hf : ∀ a ∈ C.ft, a ∈ A.ft ∨ a ∈ B.ft) : Hs T0 (C :: Ts) H :=
  h.tail.tail.cons hp fun j y hj a ha hb => (hf a ha).elim (fun z => h.apart (.tail _ (List.mem_of_getElem? hj)) a z hb) (fun z => h.tail.apart (List.mem_of_getElem? hj) a z hb)
theorem Hs.drop1 {x y : Th} (h : Hs T0 (x :: y :: Ts) H) : Hs T0 (x :: Ts) H := h.swap.tail
theorem Hs.drop2 {x y z : Th} (h : Hs T0 (x :: y :: z :: Ts) H) : Hs T0 (x :: y :: Ts) H := h.tail.drop1.cons h.head fun j u hj => by
  rcases List.mem_cons.mp (List.mem_of_getElem? hj) with rfl | hm
  · exact h.apart (.head _)
  · exact h.apart (.tail _ (.tail _ hm))
theorem Hs.drop3 {x y z u : Th} (h : Hs T0 (x :: y :: z :: u :: Ts) H) : Hs T0 (x :: y :: z :: Ts) H := h.tail.drop2.cons h.head fun j v hj => by
  rcases List.mem_cons.mp (List.mem_of_getElem? hj) with rfl | hm
  · exact h.apart (.head _)
  rcases List.mem_cons.mp hm with rfl | hm
  · exact h.apart (.tail _ (.head _))
  · exact h.apart (.tail _ (.tail _ (.tail _ hm)))
end
/-! ### the commonest things -/
/-- what stands at a -/
def tO (a : Addr) (o : HO) : Th := ⟨[a], fun H => H a = some o ∧ plain o, fun H H' k h => ⟨k a (.head _) o h.1, h.2⟩, fun H h b hb => by rw [List.mem_singleton.mp hb]; exact ⟨o, h⟩⟩
abbrev tL (a : Addr) (xs : List V) : Th := tO a (.lst xs)
theorem Bag.al {b : Addr × Addr} {H : Hp} (g : Bag b H) : H b.1 ≠ none ∧ H b.2 ≠ none := by
  obtain ⟨ns, i, r, x, c, h1, h2, _⟩ := g
  exact ⟨(by rw [h1]; exact fun z => nomatch z), (by rw [h2]; exact fun z => nomatch z)⟩
def tB (b : Addr × Addr) : Th := ⟨[b.1, b.2], Bag b, fun H H' k h => by
  obtain ⟨ns, i, r, x, c, h1, h2, h3⟩ := h
  exact ⟨ns, i, r, x, c, k _ (.head _) _ h1, k _ (.tail _ (.head _)) _ h2, h3⟩, fun H h a ha => by
  obtain ⟨ns, i, r, x, c, h1, h2, h3⟩ := h
  rcases List.mem_cons.mp ha with rfl | ha
  · exact ⟨_, h1, trivial⟩
  · rw [List.mem_singleton.mp ha]
    exact ⟨_, h2, trivial⟩⟩
theorem in1 {a p : Addr} (h : a ∈ [p]) : a = p := List.mem_singleton.mp h
section
variable {T0 : List (Addr × Str)} {b : Addr × Addr} {Ts : List Th} {H H' : Hp} {p : Addr} {o o' : HO}
theorem Hs.bag (h : Hs T0 (tB b :: Ts) H) : Bag b H := h.get 0 rfl
theorem mvf_bag (m : Mv b.1 H H') (g : Bag b H') : MvF [b.1, b.2] H H' := by
  obtain ⟨ns, i, r, x, c, h1, h2, h3⟩ := g
  exact .mv m h1 (.head _)
theorem Hs.mv (h : Hs T0 (tB b :: Ts) H) (m : Mv b.1 H H') (g : Bag b H') : Hs T0 (tB b :: Ts) H' := h.op (T := tB b) (T' := tB b) 0 rfl (mvf_bag m g) (fun a ha => .inl ha) g (fun a ha => .inl ha)
/-- a draw that tells a new thing -/
theorem Hs.newM (h : Hs T0 (tB b :: Ts) H) (m : Mv b.1 H H') (g : Bag b H') (n : H p = none) (e : H' p = some o) (pl : plain o := by exact trivial) : Hs T0 (tB b :: tO p o :: Ts) H' := by
  have h2 : Hs T0 (tO p o :: tB b :: Ts) H' := (h.opNew (T := tB b) (T' := tB b) (N := tO p o) 0 rfl (mvf_bag m g) (fun a ha => .inl ha) g (fun a ha => .inl ha) ⟨e, pl⟩ (fun a ha => by
    rw [in1 ha]
    refine ⟨n, fun z => ?_⟩
    rcases List.mem_cons.mp z with z | z
    · exact (h.bag.al.1) (z ▸ n)
    · exact (h.bag.al.2) (in1 z ▸ n)))
  exact h2.swap
/-- a new thing at the head -/
theorem Hs.newH (h : Hs T0 Ts H) (s : Same H H') (n : H p = none) (e : H' p = some o) (pl : plain o := by exact trivial) : Hs T0 (tO p o :: Ts) H' := h.new (T := tO p o) s ⟨e, pl⟩ (fun a ha => by rw [in1 ha]; exact n)
theorem Hs.newHU (h : Hs T0 Ts H) (n : H p = none) (pl : plain o := by exact trivial) : Hs T0 (tO p o :: Ts) (upd H p o) := h.newH (same_upd n) n upd_same pl
/-- a new thing, put behind the bag -/
theorem Hs.newB (h : Hs T0 (tB b :: Ts) H) (s : Same H H') (n : H p = none) (e : H' p = some o) (pl : plain o := by exact trivial) : Hs T0 (tB b :: tO p o :: Ts) H' := (h.newH s n e pl).swap
theorem Hs.newU (h : Hs T0 (tB b :: Ts) H) (n : H p = none) (pl : plain o := by exact trivial) : Hs T0 (tB b :: tO p o :: Ts) (upd H p o) := h.newB (same_upd n) n upd_same pl
theorem Hs.put (h : Hs T0 Ts H) (i : Nat) (hi : Ts[i]? = some (tO p o)) (pl : plain o' := by exact trivial) : Hs T0 (Ts.set i (tO p o')) (upd H p o') :=
  h.op i hi (F := [p]) ((MvF.refl [p] H).upd (.head _)) (fun a ha => .inl ha) ⟨upd_same, pl⟩ (fun a ha => .inl ha)
theorem Hs.at (h : Hs T0 Ts H) (i : Nat) (hi : Ts[i]? = some (tO p o)) : H p = some o := (h.get i hi).1
end
/-! ### groups: several things seen as one -/
theorem sep_flat {Ts : List Th} {H : Hp} (h : Hs [] Ts H) : ∀ a ∈ Ts.flatMap (·.ft), ∃ o, H a = some o ∧ plain o := fun a ha => by
  obtain ⟨T, hT, ha⟩ := List.mem_flatMap.mp ha
  obtain ⟨i, hi⟩ := List.getElem?_of_mem hT
  exact T.al H (h.all i T hi) a ha
def tG (Ts : List Th) : Th := ⟨Ts.flatMap (·.ft), fun H => Hs [] Ts H, fun H H' k h => ⟨fun i T hi => T.loc H H' (fun a ha => k a (List.mem_flatMap.mpr ⟨T, List.mem_of_getElem? hi, ha⟩)) (h.all i T hi), h.sep, fun p hp => absurd hp List.not_mem_nil⟩, fun H h a ha => sep_flat h a ha⟩
section
variable {T0 : List (Addr × Str)} {Ts Gs : List Th} {H : Hp}
theorem Hs.tabs0 (h : Hs T0 Ts H) : Hs [] Ts H := ⟨h.all, h.sep, fun p hp => absurd hp List.not_mem_nil⟩
theorem Hs.app : ∀ {As : List Th}, Hs [] As H → Hs T0 Ts H → (∀ x ∈ As, ∀ y ∈ Ts, ∀ a ∈ x.ft, a ∉ y.ft) → Hs T0 (As ++ Ts) H
  | [], _, h, _ => h
  | A :: As, g, h, d => (Hs.app g.tail h (fun x hx => d x (.tail _ hx))).cons g.head fun j y hj a ha hb => by
    rcases List.mem_append.mp (List.mem_of_getElem? hj) with hm | hm
    · exact g.apart hm a ha hb
    · exact d A (.head _) y hm a ha hb
theorem Hs.left : ∀ {As : List Th}, Hs T0 (As ++ Ts) H → Hs [] As H
  | [], _ => .nil (fun p hp => absurd hp List.not_mem_nil)
  | A :: As, h => (Hs.left (As := As) h.tail).cons h.head fun j y hj => h.apart (List.mem_append_left _ (List.mem_of_getElem? hj))
theorem Hs.right : ∀ {As : List Th}, Hs T0 (As ++ Ts) H → Hs T0 Ts H
  | [], h => h
  | _ :: As, h => Hs.right (As := As) h.tail
theorem Hs.cross : ∀ {As : List Th}, Hs T0 (As ++ Ts) H → ∀ x ∈ As, ∀ y ∈ Ts, ∀ a ∈ x.ft, a ∉ y.ft
  | A :: As, h, x, hx, y, hy => by
    rcases List.mem_cons.mp hx with rfl | hx
    · exact h.apart (List.mem_append_right _ hy)
    · exact Hs.cross (As := As) h.tail x hx y hy
theorem Hs.ungroup (h : Hs T0 (tG Ts :: Gs) H) : Hs T0 (Ts ++ Gs) H := Hs.app h.head h.tail (fun x hx y hy a ha hb => h.apart hy a (List.mem_flatMap.mpr ⟨x, hx, ha⟩) hb)
theorem Hs.group (h : Hs T0 (Ts ++ Gs) H) : Hs T0 (tG Ts :: Gs) H := h.right.cons h.left fun j y hj a ha hb => by
  obtain ⟨x, hx, ha⟩ := List.mem_flatMap.mp ha
  exact h.cross x hx y (List.mem_of_getElem? hj) a ha hb
end
section
variable {α : Type} {T0 : List (Addr × Str)} {As : List Th} {Y : List α} {f : α → Th} {w : Nat} {y y' : α} {H : Hp}
theorem perm_at : ∀ {Y : List α} {w : Nat} {y : α}, Y[w]? = some y → (y :: Y.eraseIdx w).Perm Y
  | x :: Y, 0, y, h => by cases h; exact .refl _
  | x :: Y, w + 1, y, h => (List.Perm.swap x y _).trans (.cons x (perm_at (Y := Y) (w := w) h))
theorem erase_set : ∀ (Y : List α) (w : Nat) (y : α), (Y.set w y).eraseIdx w = Y.eraseIdx w
  | [], _, _ => rfl
  | x :: Y, 0, y => rfl
  | x :: Y, w + 1, y => congrArg (x :: ·) (erase_set Y w y)
/-- the w-th one to the head -/
theorem Hs.front (h : Hs T0 (As ++ Y.map f) H) (hy : Y[w]? = some y) : Hs T0 (f y :: (As ++ (Y.eraseIdx w).map f)) H := by
  refine h.perm (List.Perm.trans ?_ List.perm_middle)
  exact .append_left As ((perm_at hy).map f).symm
theorem Hs.back (h : Hs T0 (f y' :: (As ++ (Y.eraseIdx w).map f)) H) (hw : w < Y.length) : Hs T0 (As ++ (Y.set w y').map f) H := by
  have hy : (Y.set w y')[w]? = some y' := by rw [List.getElem?_set, if_pos rfl, if_pos hw]
  have := perm_at hy
  rw [erase_set] at this
  refine h.perm (List.Perm.trans List.perm_middle.symm ?_)
  exact .append_left As (this.map f)
end
end WB
namespace WB
open PySem PySem.Spec PyProof.Rows L2
def topS (i : Nat) : Stmt := PySem.Challenge.pw_warbleline_k09_whole_streams_of_frames.main.body.getD i (.Pass ⟨0, 0, 0, 0⟩)
abbrev s__wall : Stmt := topS 0
abbrev s_LineError : Stmt := topS 2
abbrev s_BadBit : Stmt := topS 3
abbrev s_BadFrame : Stmt := topS 4
abbrev s_check_bits : Stmt := topS 6
abbrev s_moved_on : Stmt := topS 10
abbrev s_seal_of : Stmt := topS 11
abbrev s_holds : Stmt := topS 12
abbrev s_unstuffed : Stmt := topS 18
abbrev s_payload_between : Stmt := topS 19
abbrev s_Reader : Stmt := topS 20
abbrev m_Reader___init__ : Stmt := inClass s_Reader 0
abbrev m_Reader_take : Stmt := inClass s_Reader 1
abbrev m_Reader_take_bit : Stmt := inClass s_Reader 2
abbrev m_Reader_pass_mark : Stmt := inClass s_Reader 3
abbrev m_Reader_forget : Stmt := inClass s_Reader 4
abbrev m_Reader_hurt : Stmt := inClass s_Reader 5
abbrev m_Reader_waiting : Stmt := inClass s_Reader 6
abbrev m_Reader_twin : Stmt := inClass s_Reader 7
abbrev s__law_bag : Stmt := topS 22
abbrev s__law_pick : Stmt := topS 23
abbrev s__law_same : Stmt := topS 24
abbrev s__law_written : Stmt := topS 25
abbrev s__law_bits : Stmt := topS 26
abbrev s__law_seal : Stmt := topS 27
abbrev s__law_stuffed : Stmt := topS 28
abbrev s__law_mark : Stmt := topS 29
abbrev s__law_frame : Stmt := topS 30
abbrev s__law_payload : Stmt := topS 31
abbrev s__law_joined : Stmt := topS 32
abbrev s__law_cuts : Stmt := topS 33
abbrev s_law : Stmt := topS 34
section
variable {P : Program} {w : World} {K : PySem.W.Frag} {mg : Str → Option Value} {base : Heap}
abbrev i_LineError : Stmt := inClass s_LineError 0
theorem sc_i_LineError : FnScope ["self", "word", "text"] ["self", "word", "text"] (defScope i_LineError) := ⟨rfl, rfl, rfl, by decide +kernel, rfl, by decide +kernel, by decide +kernel⟩
theorem ok_i_LineError {f : Addr} {fd : FuncData} {k : Nat} {dvs : List V} (F : FunD K "__init__" "LineError.__init__" (defArgs i_LineError) (defBody i_LineError) (defScope i_LineError) dvs [] f fd) (n_ValueError : mg "ValueError" = none) (vV : PySem.W.findCls K (.type "ValueError") (.type "type") "__init__" = some (.val (.builtin "ValueError.__init__"))) :
    FnOk P w K mg base CX0 (k + 1) f fd ["self", "word", "text"] (spLE K) := by
  have sc := sc_i_LineError
  refine F.ok sc (fun vs H Q E h => ?_) (fun cdv A outer s H vs Q E hr h => ?_)
  · obtain ⟨a, C, w, t, rfl, _⟩ := h
    rfl
  · obtain ⟨a, C, w, t, rfl, hC, hw, ha, q⟩ := h
    refine ⟨_, PSs.nox (pss_cons (ps_expr (pe_veinit (by rfl) n_ValueError vV (pa_cons (pv 0) (pa_cons (pv 2) pa_nil)))) (pss_one (ps_ost (pv 0) (pv 1)))), ?_⟩
    refine ⟨_, rfl, _, rfl, a, C, [t], rfl, by show 1 ≤ 1000; decide, hC, ha, ?_⟩
    exact ⟨_, rfl, _, rfl, a, C, rfl, hC, hw, .inl ⟨ha, fun d nd da => q d nd da⟩⟩
abbrev i_BadBit : Stmt := inClass s_BadBit 0
theorem sc_i_BadBit : FnScope ["self", "at"] ["self", "at"] (defScope i_BadBit) := ⟨rfl, rfl, rfl, by decide +kernel, rfl, by decide +kernel, by decide +kernel⟩
theorem ok_i_BadBit {f fL C CL : Addr} {fd fdL : FuncData} {k : Nat} (F : Fun K "__init__" "BadBit.__init__" i_BadBit f fd) (TL : ClsFn K mg "LineError" "__init__" CL fL) (FL : FnOk P w K mg base CX0 k fL fdL ["self", "word", "text"] (spLE K)) (bL : Binds K fdL ["self", "word", "text"] [])
    (hC : OexC K C) (hw : PySem.W.findIn K (.ref C) "word" = some none) (hf : PySem.W.findIn K (.ref C) "at" = some none) : FnOk P w K mg base CX0 (k + 1) f fd ["self", "at"] (spIni K C "BadBit" "at") := by
  have sc := sc_i_BadBit
  refine F.ok sc (fun vs H Q E h => ?_) (fun cdv A outer s H vs Q E hr h => ?_)
  · obtain ⟨a, i, rfl, _⟩ := h
    rfl
  · obtain ⟨a, i, rfl, hi, ha, q⟩ := h
    refine ⟨_, (pss_cons (ps_expr (pe_clsfn TL FL hr bL pass0 (by rfl) (pa_cons (pv 0) (pa_cons pe_str (pa_cons (pe_joined (.cons pe_str (.cons (pe_fmt (pv 1)) .nil))) pa_nil))))) (pss_one (ps_ost (pv 0) (pv 1)))), ?_⟩
    refine ⟨_, rfl, _, rfl, (by decide +kernel), _, rfl, .inr ⟨i, rfl, by omega, _, rfl, txt_fits (by decide +kernel) hi, ?_⟩⟩
    refine ⟨a, C, _, _, rfl, hC, hw, ha, fun d nd da => ?_⟩
    refine ⟨_, rfl, _, rfl, a, C, rfl, hC, hf, .inr ⟨d, _, upd_same, ?_, by show 1 ≤ 900; decide, q d nd da⟩⟩
    rw [upd_ne da, upd_same]
abbrev i_BadFrame : Stmt := inClass s_BadFrame 0
theorem sc_i_BadFrame : FnScope ["self", "at"] ["self", "at"] (defScope i_BadFrame) := ⟨rfl, rfl, rfl, by decide +kernel, rfl, by decide +kernel, by decide +kernel⟩
theorem ok_i_BadFrame {f fL C CL : Addr} {fd fdL : FuncData} {k : Nat} (F : Fun K "__init__" "BadFrame.__init__" i_BadFrame f fd) (TL : ClsFn K mg "LineError" "__init__" CL fL) (FL : FnOk P w K mg base CX0 k fL fdL ["self", "word", "text"] (spLE K)) (bL : Binds K fdL ["self", "word", "text"] [])
    (hC : OexC K C) (hw : PySem.W.findIn K (.ref C) "word" = some none) (hf : PySem.W.findIn K (.ref C) "at" = some none) : FnOk P w K mg base CX0 (k + 1) f fd ["self", "at"] (spIni K C "BadFrame" "at") := by
  have sc := sc_i_BadFrame
  refine F.ok sc (fun vs H Q E h => ?_) (fun cdv A outer s H vs Q E hr h => ?_)
  · obtain ⟨a, i, rfl, _⟩ := h
    rfl
  · obtain ⟨a, i, rfl, hi, ha, q⟩ := h
    refine ⟨_, (pss_cons (ps_expr (pe_clsfn TL FL hr bL pass0 (by rfl) (pa_cons (pv 0) (pa_cons pe_str (pa_cons (pe_joined (.cons pe_str (.cons (pe_fmt (pv 1)) .nil))) pa_nil))))) (pss_one (ps_ost (pv 0) (pv 1)))), ?_⟩
    refine ⟨_, rfl, _, rfl, (by decide +kernel), _, rfl, .inr ⟨i, rfl, by omega, _, rfl, txt_fits (by decide +kernel) hi, ?_⟩⟩
    refine ⟨a, C, _, _, rfl, hC, hw, ha, fun d nd da => ?_⟩
    refine ⟨_, rfl, _, rfl, a, C, rfl, hC, hf, .inr ⟨d, _, upd_same, ?_, by show 1 ≤ 900; decide, q d nd da⟩⟩
    rw [upd_ne da, upd_same]
theorem sc_check_bits : FnScope ["bits", "at", "bit"] ["bits"] (defScope s_check_bits) := ⟨rfl, rfl, rfl, by decide +kernel, rfl, by decide +kernel, by decide +kernel⟩
/-- all of them are bits, or the first that is none -/
def spCheckX (K : PySem.W.Frag) (C : Addr) : Sp := fun vs H Q E => ∃ (a : Addr) (ns : List Int), vs = [.ref a] ∧ SqL K H a (ns.map V.int) ∧ ns.length ≤ 100000 ∧ (Bits ns → ∀ H', Same H H' → Q .non H') ∧
  (∀ (i : Nat) (z : Int), ns[i]? = some z → ¬ isB z → Bits (ns.take i) → ∀ H' d, Same H H' → H d = none → H' d = some (.xd [(("at" : Str), .int (i : Int)), (("word" : Str), .str "BadBit")]) → E (.ref C) (some d) H')
theorem log_le {n : Nat} (h : n ≤ 100000) : ((n : Int)).natAbs.log2 < 1000 := by
  rw [Int.natAbs_natCast]
  by_cases z : n = 0
  · subst z
    decide
  · exact (Nat.log2_lt z).mpr (Nat.lt_of_le_of_lt h (by decide))
theorem ok_check_bits {f C : Addr} {fd : FuncData} {k : Nat} (F : Fun K "check_bits" "check_bits" s_check_bits f fd) (n_enumerate : mg "enumerate" = none) (x_BadBit : XcOk P w K mg base k "BadBit" C (spIni K C "BadBit" "at")) : FnOk P w K mg base (L2.CX P w) (k + 2) f fd ["bits"] (spCheckX K C) := by
  have sc := sc_check_bits
  refine F.okX sc (fun vs H Q E h => ?_) (fun cdv A outer s H vs Q E hr h => ?_)
  · obtain ⟨a, ns, rfl, _⟩ := h
    rfl
  · obtain ⟨a, ns, rfl, hS, hl, q, qe⟩ := h
    refine ⟨_, (pss_one (ps_for (passes_of rfl) rfl (pi_enum (by rfl) n_enumerate (pa_cons (pv 0) pa_nil)) (pg_tup rfl (pgs_cons (pg_name (i := 1) sc.nd rfl (.inl rfl)) (pgs_cons (pg_name (i := 2) sc.nd rfl (.inl rfl)) pgs_nil)))
  (pss_one (ps_if (pt_cmpR (op_notInK K rfl) (pv 2) (pe_tup (pa_cons pe_int (pa_cons pe_int pa_nil))) (by rfl))
  (pss_one (ps_raise rfl (takes_of rfl rfl rfl rfl) (pmk_c x_BadBit hr (by rfl) (pa_cons (pv 1) pa_nil))))
  pss_nil)))), ?_⟩
    refine ⟨_, rfl, a, _, rfl, hS, for_enumK (xs := ns.map V.int) (fun i σ H' => ∃ y1 y2, σ = [some (.ref a), y1, y2] ∧ Same H H' ∧ Bits (ns.take i)) ⟨none, none, rfl, Same.refl H, bits_nil⟩ (fun i σ H' _ h => ?_) ?_ ?_⟩
    · obtain ⟨y1, y2, _, sm, _⟩ := h
      exact sm.seq hS
    · rintro i x T σ H' hx ⟨y1, y2, rfl, sm, hbi⟩ nT
      obtain ⟨z, hz, rfl⟩ := getI hx
      have s1 := sm.trans (same_upd (o := .tup [.int (i : Nat), .int z]) nT)
      refine ⟨T, _, rfl, SqT.of upd_same, rfl, _, _, rfl, _, _, rfl, rfl, ?_⟩
      refine ⟨_, rfl, (by show 2 ≤ sizeLine; decide), fun p np => ?_⟩
      have s2 := s1.trans (same_upd (o := .tup [.int 0, .int 1]) np)
      refine ⟨p, _, rfl, .inr (SqT.of upd_same), rfl, rfl, _, rfl, ite2 (fun e => ?_) (fun e => ?_)⟩
      · have e : (!inV (.int z) [.int 0, .int 1]) = true := e
        have nb : ¬ isB z := by
          rintro (rfl | rfl)
          · exact absurd e (by decide)
          · exact absurd e (by decide)
        have hil : i < ns.length := (List.getElem?_eq_some_iff.mp hz).1
        refine ⟨_, rfl, mk_inner (log_le (by omega)) (fun H3 d s3 nd ed => qe i z hz nb hbi H3 d (s2.trans s3) (s2.free nd) ed)⟩
      · have e : ¬ (!inV (.int z) [.int 0, .int 1]) = true := e
        have yb : isB z := by
          have hh : inV (.int z) (([0, 1] : List Int).map V.int) = true := by
            cases q : inV (.int z) [.int 0, .int 1] with
            | true => exact q
            | false => rw [q] at e; exact absurd rfl e
          rw [inV_ints] at hh
          have := of_decide_eq_true hh
          simpa [isB] using this
        refine ⟨_, _, rfl, s2, ?_⟩
        rw [take_more hz]
        exact bits_app hbi (bits_one yb)
    · rintro σ H' ⟨y1, y2, rfl, sm, hbi⟩
      rw [List.length_map, List.take_length] at hbi
      exact q hbi H' sm
/-! ### unstuffing -/
def ust : List Int → Nat → List Int → Nat → Nat ⊕ List Int
  | [], i, row, ones => if ones = 5 then .inl i else .inr row
  | b :: r, i, row, ones => if ones < 5 then ust r (i + 1) (row ++ [b]) (if b = 1 then ones + 1 else 0) else if b = 0 then ust r (i + 1) row 0 else .inl i
def U (ns : List Int) : Nat ⊕ List Int := ust ns 0 [] 0
theorem drop_at {α : Type} {l : List α} {i : Nat} {x : α} (h : l[i]? = some x) : l.drop i = x :: l.drop (i + 1) := by
  obtain ⟨hl, e⟩ := List.getElem?_eq_some_iff.mp h
  rw [List.drop_eq_getElem_cons hl, e]
theorem ust_le : ∀ (bs : List Int) {i : Nat} {row : List Int} {ones n : Nat}, ust bs i row ones = .inl n → n ≤ i + bs.length
  | [], i, row, ones, n, h => by
    have h : (if ones = 5 then Sum.inl i else Sum.inr row : Nat ⊕ List Int) = .inl n := h
    split at h
    · cases h
      exact Nat.le_refl _
    · cases h
  | b :: r, i, row, ones, n, h => by
    have h : (if ones < 5 then ust r (i + 1) (row ++ [b]) (if b = 1 then ones + 1 else 0) else if b = 0 then ust r (i + 1) row 0 else .inl i : Nat ⊕ List Int) = .inl n := h
    rw [List.length_cons]
    split at h
    · have := ust_le r h
      omega
    · split at h
      · have := ust_le r h
        omega
      · cases h
        omega
/-! ### stuffing -/
def stS (s : List Int × Nat) (b : Int) : List Int × Nat := if (if b = 1 then s.2 + 1 else 0) = 5 then (s.1 ++ [b] ++ [0], 0) else (s.1 ++ [b], if b = 1 then s.2 + 1 else 0)
def stR (ns : List Int) : List Int × Nat := ns.foldl stS ([], 0)
def stuffL (ns : List Int) : List Int := (stR ns).1
theorem stR_more {ns : List Int} {i : Nat} {b : Int} (h : ns[i]? = some b) : stR (ns.take (i + 1)) = stS (stR (ns.take i)) b := by
  unfold stR
  rw [take_more h, List.foldl_append]
  rfl
/-- how many 1 stand at its end -/
def tro (L : List Int) : Nat := (L.reverse.takeWhile (fun z => decide (z = 1))).length
theorem tro_snoc (L : List Int) (b : Int) : tro (L ++ [b]) = if b = 1 then tro L + 1 else 0 := by
  unfold tro
  rw [List.reverse_append]
  show ((b :: L.reverse).takeWhile _).length = _
  rw [List.takeWhile_cons]
  by_cases h : b = 1
  · rw [if_pos (decide_eq_true h), if_pos h]
    rfl
  · rw [if_neg (by simpa using h), if_neg h]
    rfl
structure StOk (s : List Int × Nat) (i : Nat) : Prop where
  tr : tro s.1 = s.2
  lt : s.2 < 5
  len : s.1.length ≤ 2 * i
  bits : Bits s.1
theorem stS_ok {s : List Int × Nat} {i : Nat} {b : Int} (h : StOk s i) (hb : isB b) : StOk (stS s b) (i + 1) := by
  have h1 : tro (s.1 ++ [b]) = if b = 1 then s.2 + 1 else 0 := by rw [tro_snoc, h.tr]
  have hl := h.len
  unfold stS
  by_cases h5 : (if b = 1 then s.2 + 1 else 0) = 5
  · rw [if_pos h5]
    refine ⟨by show tro (s.1 ++ [b] ++ [0]) = 0; rw [tro_snoc]; rfl, by show 0 < 5; decide, ?_, bits_app (bits_app h.bits (bits_one hb)) (bits_one (.inl rfl))⟩
    show (s.1 ++ [b] ++ [0]).length ≤ _
    rw [List.length_append, List.length_append]
    show s.1.length + 1 + 1 ≤ _
    omega
  · rw [if_neg h5]
    refine ⟨h1, ?_, ?_, bits_app h.bits (bits_one hb)⟩
    · have := h.lt
      show (if b = 1 then s.2 + 1 else 0) < 5
      split at h5 <;> rename_i z <;> simp only [z, if_true, if_false] at h5 ⊢ <;> omega
    · show (s.1 ++ [b]).length ≤ _
      rw [List.length_append]
      show s.1.length + 1 ≤ _
      omega
theorem stR_ok {ns : List Int} (hb : Bits ns) : ∀ i, i ≤ ns.length → StOk (stR (ns.take i)) i
  | 0, _ => ⟨rfl, by show 0 < 5; decide, Nat.le_refl _, bits_nil⟩
  | i + 1, h => by
    have hi : i < ns.length := h
    rw [stR_more (List.getElem?_eq_getElem hi)]
    exact stS_ok (stR_ok hb i (by omega)) (hb _ (List.getElem_mem hi))
theorem stuff_ok {ns : List Int} (hb : Bits ns) : StOk (stR ns) ns.length := by
  have := stR_ok hb ns.length (Nat.le_refl _)
  rwa [List.take_length] at this
/-! the signs of a row -/
def dc (L : List Int) : List Nat := L.map fun z => if z = 1 then 49 else 48
def dig (L : List Int) : Str := ⟨(dc L).toArray⟩
theorem dig_len (L : List Int) : (dig L).length = L.length := by
  show (dc L).toArray.size = _
  rw [List.size_toArray]
  unfold dc
  rw [List.length_map]
theorem dig_app (L M : List Int) : dig L ++ dig M = dig (L ++ M) := by
  apply PySem.Str.ext'
  show (dc L).toArray ++ (dc M).toArray = (dc (L ++ M)).toArray
  unfold dc
  rw [List.map_append]
  simp
theorem ends5 (L : List Int) : Txt.endswith (dig L) "11111" = decide (5 ≤ tro L) := by
  have key : ∀ M : List Int, Txt.endswith (dig M.reverse) "11111" = decide (5 ≤ tro M.reverse) := by
    intro M
    have hle : ∀ M : List Int, M.length < 5 → Txt.endswith (dig M.reverse) "11111" = decide (5 ≤ tro M.reverse) := by
      intro M hM
      have e1 : Txt.endswith (dig M.reverse) "11111" = false := by
        show (decide (0 + 5 ≤ (dig M.reverse).length) && _) = false
        rw [dig_len, List.length_reverse, decide_eq_false (by omega), Bool.false_and]
      have e2 : tro M.reverse < 5 := by
        unfold tro
        rw [List.reverse_reverse]
        exact Nat.lt_of_le_of_lt (List.takeWhile_sublist _).length_le hM
      rw [e1, decide_eq_false (by omega)]
    match M with
    | [] => exact hle _ (by decide)
    | [_] => exact hle _ (by show 1 < 5; decide)
    | [_, _] => exact hle _ (by show 2 < 5; decide)
    | [_, _, _] => exact hle _ (by show 3 < 5; decide)
    | [_, _, _, _] => exact hle _ (by show 4 < 5; decide)
    | a :: b :: c :: d :: e :: r =>
      have ht : tro (a :: b :: c :: d :: e :: r).reverse = ((a :: b :: c :: d :: e :: r).takeWhile (fun z => decide (z = 1))).length := by
        unfold tro
        rw [List.reverse_reverse]
      have hr : (a :: b :: c :: d :: e :: r).reverse = r.reverse ++ [e, d, c, b, a] := by simp
      have hx : Txt.endswith (dig (a :: b :: c :: d :: e :: r).reverse) "11111" = (dc [e, d, c, b, a] == [49, 49, 49, 49, 49]) := by
        show (decide (0 + 5 ≤ (dig (a :: b :: c :: d :: e :: r).reverse).length) && Builtin.Str.subAt (dig (a :: b :: c :: d :: e :: r).reverse) "11111" ((dig (a :: b :: c :: d :: e :: r).reverse).length - 5)) = _
        rw [dig_len, List.length_reverse, decide_eq_true (by show 0 + 5 ≤ r.length + 1 + 1 + 1 + 1 + 1; omega), Bool.true_and, PySem.StrLaws.subAt_eq]
        have e1 : (dig (a :: b :: c :: d :: e :: r).reverse).cps.toList = dc r.reverse ++ dc [e, d, c, b, a] := by
          show dc _ = _
          rw [hr]
          unfold dc
          rw [List.map_append]
        have e2 : (a :: b :: c :: d :: e :: r).length - 5 = (dc r.reverse).length := by
          unfold dc
          rw [List.length_map, List.length_reverse]
          show r.length + 1 + 1 + 1 + 1 + 1 - 5 = _
          omega
        rw [e1, e2, List.drop_left]
        rfl
      rw [hx, ht]
      by_cases ha : a = 1
      · by_cases hb : b = 1
        · by_cases hc : c = 1
          · by_cases hd : d = 1
            · by_cases he : e = 1
              · subst ha hb hc hd he
                simp [dc]
              · simp [dc, ha, hb, hc, hd, he]
            · simp [dc, ha, hb, hc, hd]
          · simp [dc, ha, hb, hc]
        · simp [dc, ha, hb]
      · simp [dc, ha]
  have := key L.reverse
  rwa [List.reverse_reverse] at this
theorem for_strK {x : Str} {g : TG} {tb : TS} {D : Ends} {σ : L2.St} {H : Hp} (Pv : Nat → L2.St → Hp → Prop) (p0 : Pv 0 σ H)
    (ps : ∀ i c σ H, x.cps[i]? = some c → Pv i σ H → g (.str ⟨#[c]⟩) σ H fun σ2 H2 => tb { D with nx := Pv (i + 1), ct := Pv (i + 1), bk := D.nx } σ2 H2) (pd : ∀ σ H, Pv x.cps.size σ H → D.nx σ H) :
    ∃ W : Nat → Nat → L2.St → Hp → Prop, (∃ m, W 0 m σ H) ∧ ∀ i m σ H, W i m σ H →
      ((Its x).stop i H ∧ D.nx σ H) ∨ ((Its x).go i H ∧ ∃ N : L2.St → Hp → Prop, (∀ σ' H', N σ' H' → ∃ m', m' < m ∧ W (i + 1) m' σ' H') ∧ ∀ y H', (Its x).yld i H y H' → g y σ H' fun σ2 H2 => tb { D with nx := N, ct := N, bk := D.nx } σ2 H2) := by
  refine ⟨fun i m σ H => m = x.cps.size - i ∧ i ≤ x.cps.size ∧ Pv i σ H, ⟨_, rfl, Nat.zero_le _, p0⟩, fun i m σ H hw => ?_⟩
  obtain ⟨rfl, hi, p⟩ := hw
  by_cases hlt : i < x.cps.size
  · refine .inr ⟨hlt, Pv (i + 1), fun σ' H' p' => ⟨x.cps.size - (i + 1), by omega, rfl, hlt, p'⟩, fun y H' hy => ?_⟩
    obtain ⟨rfl, c, hc, rfl⟩ := hy
    exact ps i c σ _ hc p
  · obtain rfl : i = x.cps.size := by omega
    exact .inl ⟨Nat.le_refl _, pd σ H p⟩
theorem lc_strK {x : Str} {g : TG} {tt : TT} {te : TE} {vs : List Nat} {σ : L2.St} {H1 : Hp} {D : Addr} {Qd : Hp → Prop} (Pv : Nat → Hp → Prop) (p0 : Pv 0 (upd H1 D (.lst [])))
    (ps : ∀ i c H, x.cps[i]? = some c → Pv i H → g (.str ⟨#[c]⟩) (wipe σ vs) H fun σ2 H2 => wipe σ2 vs = wipe σ vs ∧ tt σ2 H2 fun b H3 =>
      if b = true then te σ2 H3 fun y H4 => ∃ acc, H4 D = some (.lst acc) ∧ acc.length < sizeLine ∧ Pv (i + 1) (upd H4 D (.lst (acc ++ [y]))) else Pv (i + 1) H3) (pd : ∀ H, Pv x.cps.size H → Qd H) :
    ∃ W : Nat → Nat → Hp → Prop, (∃ m, W 0 m (upd H1 D (.lst []))) ∧ ∀ i m H, W i m H →
      ((Its x).stop i H ∧ Qd H) ∨ ((Its x).go i H ∧ ∃ Nx : Hp → Prop, (∀ H', Nx H' → ∃ m', m' < m ∧ W (i + 1) m' H') ∧ ∀ y H', (Its x).yld i H y H' → g y (wipe σ vs) H' fun σ2 H2 => wipe σ2 vs = wipe σ vs ∧ tt σ2 H2 fun b H3 =>
        if b = true then te σ2 H3 fun y H4 => ∃ acc, H4 D = some (.lst acc) ∧ acc.length < sizeLine ∧ Nx (upd H4 D (.lst (acc ++ [y]))) else Nx H3) := by
  refine ⟨fun i m H => m = x.cps.size - i ∧ i ≤ x.cps.size ∧ Pv i H, ⟨_, rfl, Nat.zero_le _, p0⟩, fun i m H hw => ?_⟩
  obtain ⟨rfl, hi, p⟩ := hw
  by_cases hlt : i < x.cps.size
  · refine .inr ⟨hlt, Pv (i + 1), fun H' p' => ⟨x.cps.size - (i + 1), by omega, rfl, hlt, p'⟩, fun y H' hy => ?_⟩
    obtain ⟨rfl, c, hc, rfl⟩ := hy
    exact ps i c _ hc p
  · obtain rfl : i = x.cps.size := by omega
    exact .inl ⟨Nat.le_refl _, pd H p⟩
theorem joinL_nil : ∀ l : List (List Nat), TL.joinL [] l = l.flatten
  | [] => rfl
  | [p] => by
    show p = p ++ []
    rw [List.append_nil]
  | p :: q :: r => by
    show p ++ ([] ++ TL.joinL [] (q :: r)) = p ++ (q :: r).flatten
    rw [joinL_nil (q :: r)]
    rfl
def strI (z : Int) : Str := Str.ofString (toString z)
theorem join_dig {ns : List Int} (hb : Bits ns) : Txt.join "" (ns.map strI) = dig ns := by
  apply TL.ext_tl
  rw [TL.join_eq, TL.tl_join]
  show TL.joinL [] ((ns.map strI).map TL.tl) = dc ns
  rw [joinL_nil]
  induction ns with
  | nil => rfl
  | cons b r ih =>
    have h := bits_cons hb
    show TL.tl (strI b) ++ ((r.map strI).map TL.tl).flatten = (if b = 1 then 49 else 48) :: dc r
    rw [ih h.2]
    rcases h.1 with rfl | rfl
    · rfl
    · rfl
theorem sc_unstuffed : FnScope ["bits", "row", "ones", "at", "bit"] ["bits"] (defScope s_unstuffed) := ⟨rfl, rfl, rfl, by decide +kernel, rfl, by decide +kernel, by decide +kernel⟩
def spUnX (K : PySem.W.Frag) (cB cF : Addr) : Sp := fun vs H Q E => ∃ (a : Addr) (ns : List Int), vs = [.ref a] ∧ SqL K H a (ns.map V.int) ∧ ns.length ≤ 10000 ∧
  (Bits ns → ∀ row, U ns = .inr row → ∀ (H' : Hp) (p : Addr), Same H H' → H p = none → H' p = some (.lst (row.map V.int)) → Q (.ref p) H') ∧
  (Bits ns → ∀ i, U ns = .inl i → ∀ H' d, Same H H' → H d = none → H' d = some (.xd [(("at" : Str), .int (i : Int)), (("word" : Str), .str "BadFrame")]) → E (.ref cF) (some d) H') ∧
  (∀ (i : Nat) (z : Int), ns[i]? = some z → ¬ isB z → Bits (ns.take i) → ∀ H' d, Same H H' → H d = none → H' d = some (.xd [(("at" : Str), .int (i : Int)), (("word" : Str), .str "BadBit")]) → E (.ref cB) (some d) H')
theorem ok_unstuffed {f cB cF : Addr} {fd : FuncData} {k : Nat} {tM : Tok} (F : Fun K "unstuffed" "unstuffed" s_unstuffed f fd) (n_enumerate : mg "enumerate" = none) (n_len : mg "len" = none) (g_MOST_ONES : mg "MOST_ONES" = some (.int 5 tM)) (x_BadFrame : XcOk P w K mg base k "BadFrame" cF (spIni K cF "BadFrame" "at"))
    (c_check_bits : CalX P w K mg base (k + 1) "check_bits" ["bits"] (spCheckX K cB)) : FnOk P w K mg base (L2.CX P w) (k + 2) f fd ["bits"] (spUnX K cB cF) := by
  have sc := sc_unstuffed
  refine F.okX sc (fun vs H Q E h => ?_) (fun cdv A outer s H vs Q E hr h => ?_)
  · obtain ⟨a, ns, rfl, _⟩ := h
    rfl
  · obtain ⟨a, ns, rfl, hS, hl, q, qf, qb⟩ := h
    refine ⟨_, (pss_cons (ps_expr (pe_callP c_check_bits hr (passes_call (takes_of rfl rfl rfl rfl) (fun _ _ _ _ h => h)) (by rfl) (pa_cons (pv 0) pa_nil)))
 (pss_cons (ps_set (i := 1) sc.nd rfl (.inl rfl) (pe_lst pa_nil))
 (pss_cons (ps_set (i := 2) sc.nd rfl (.inl rfl) pe_int)
 (pss_cons (ps_for (passes_of rfl) rfl (pi_enum (by rfl) n_enumerate (pa_cons (pv 0) pa_nil)) (pg_tup rfl (pgs_cons (pg_name (i := 3) sc.nd rfl (.inl rfl)) (pgs_cons (pg_name (i := 4) sc.nd rfl (.inl rfl)) pgs_nil)))
  (pss_one (ps_if (pt_cmpR op_lt (pv 2) (pe_glob (v := .int 5) (by rfl) g_MOST_ONES ⟨_, rfl⟩) (nomark _))
  (pss_cons (ps_expr (pe_bmK K rfl PySem.F.plainAttrs_list PySem.F.slot_list_append PySem.F.type_list_append mt_append (pv 1) (pa_cons (pv 4) pa_nil)))
 (pss_one (ps_set (i := 2) sc.nd rfl (.inl rfl) (pe_ifExp (pt_cmpR op_eq (pv 4) pe_int (nomark _)) (pe_op op_add (pv 2) pe_int) pe_int))))
  (pss_one (ps_if (pt_cmpR op_eq (pv 4) pe_int (nomark _))
  (pss_one (ps_set (i := 2) sc.nd rfl (.inl rfl) pe_int))
  (pss_one (ps_raise rfl (takes_of rfl rfl rfl rfl) (pmk_c x_BadFrame hr (by rfl) (pa_cons (pv 3) pa_nil)))))))))
 (pss_cons (ps_if (pt_cmpR op_eq (pv 2) (pe_glob (v := .int 5) (by rfl) g_MOST_ONES ⟨_, rfl⟩) (nomark _))
  (pss_one (ps_raise rfl (takes_of rfl rfl rfl rfl) (pmk_c x_BadFrame hr (by rfl) (pa_cons (pe_callB (call_lenK K rfl) (by rfl) n_len PySem.boot_len (pa_cons (pv 0) pa_nil)) pa_nil))))
  pss_nil)
 (pss_one (ps_ret (pv 1)))))))), ?_⟩
    refine ⟨_, rfl, a, ns, rfl, hS, by omega, fun hB H1 s1 => ?_, qb⟩
    refine ⟨Nat.zero_le _, fun o no => ?_⟩
    have n0 : H o = none := s1.free no
    have s2 := s1.trans (same_upd (o := .lst []) no)
    refine ⟨_, rfl, a, _, rfl, s2.seq hS, for_enumK (xs := ns.map V.int) (fun i σ H' => ∃ (row : List Int) (ones : Nat) (y3 y4 : Option V), σ = [some (.ref a), some (.ref o), some (.int (ones : Int)), y3, y4] ∧ Same H H' ∧ H' o = some (.lst (row.map V.int)) ∧ ones ≤ 5 ∧ row.length ≤ i ∧ ust (ns.drop i) i row ones = U ns)
      ⟨[], 0, none, none, rfl, s2, upd_same, by decide, Nat.le_refl _, rfl⟩ (fun i σ H' _ h => ?_) ?_ ?_⟩
    · obtain ⟨_, _, _, _, _, sm, _⟩ := h
      exact sm.seq hS
    · rintro i x T σ H' hx ⟨row, ones, y3, y4, rfl, sm, eo, ho, hrl, hu⟩ nT
      obtain ⟨z, hz, rfl⟩ := getI hx
      have hil : i < ns.length := (List.getElem?_eq_some_iff.mp hz).1
      have zb := hB z (List.mem_of_getElem? hz)
      rw [drop_at hz] at hu
      have s3 := sm.trans (same_upd (o := .tup [.int (i : Nat), .int z]) nT)
      have eo3 : upd H' T (.tup [.int (i : Nat), .int z]) o = some (.lst (row.map V.int)) := same_upd nT _ _ eo
      refine ⟨T, _, rfl, SqT.of upd_same, rfl, _, _, rfl, _, _, rfl, rfl, ?_⟩
      refine ⟨_, rfl, _, _, rfl, rfl, _, rfl, ite2 (fun e => ?_) (fun e => ?_)⟩
      · have hlt : ones < 5 := by have := of_decide_eq_true e; omega
        have hu : (if ones < 5 then ust (ns.drop (i + 1)) (i + 1) (row ++ [z]) (if z = 1 then ones + 1 else 0) else _) = U ns := hu
        rw [if_pos hlt] at hu
        refine ⟨_, rfl, .inl ⟨rfl, _, SqL.of eo3⟩, _, rfl, o, _, _, rfl, rfl, eo3, ?_, ?_⟩
        · rw [List.length_map]
          exact sz4l (by omega)
        have em : (row.map V.int ++ [V.int z]) = (row ++ [z]).map V.int := by rw [List.map_append]; rfl
        rw [em]
        refine ⟨_, rfl, rfl, _, rfl, ite2 (fun e1 => ?_) (fun e1 => ?_)⟩
        · have z1 : z = 1 := V.int.inj (of_decide_eq_true e1)
          rw [if_pos z1] at hu
          refine ⟨_, rfl, _, _, rfl, rfl, row ++ [z], ones + 1, _, _, rfl, same_mut s3 n0, upd_same, by omega, by rw [List.length_append]; show row.length + 1 ≤ i + 1; omega, hu⟩
        · have z1 : ¬ z = 1 := fun y => e1 (decide_eq_true (congrArg V.int y))
          rw [if_neg z1] at hu
          exact ⟨row ++ [z], 0, _, _, rfl, same_mut s3 n0, upd_same, by omega, by rw [List.length_append]; show row.length + 1 ≤ i + 1; omega, hu⟩
      · have hge : ¬ ones < 5 := fun y => e (decide_eq_true (by omega))
        have hu : (if ones < 5 then _ else if z = 0 then ust (ns.drop (i + 1)) (i + 1) row 0 else .inl i) = U ns := hu
        rw [if_neg hge] at hu
        refine ⟨_, rfl, rfl, _, rfl, ite2 (fun e1 => ?_) (fun e1 => ?_)⟩
        · have z0 : z = 0 := V.int.inj (of_decide_eq_true e1)
          rw [if_pos z0] at hu
          exact ⟨row, 0, _, _, rfl, s3, eo3, by omega, by omega, hu⟩
        · have z0 : ¬ z = 0 := fun y => e1 (decide_eq_true (congrArg V.int y))
          rw [if_neg z0] at hu
          exact ⟨_, rfl, mk_inner (log_le (by omega)) (fun H3 d s4 nd ed => qf hB i hu.symm H3 d (s3.trans s4) (s3.free nd) ed)⟩
    · rintro σ H' ⟨row, ones, y3, y4, rfl, sm, eo, ho, hrl, hu⟩
      rw [List.length_map, List.drop_length] at hu
      have hu : (if ones = 5 then Sum.inl (ns.map V.int).length else .inr row : Nat ⊕ List Int) = U ns := by rw [List.length_map]; exact hu
      refine ⟨_, rfl, rfl, _, rfl, ite2 (fun e => ?_) (fun e => ?_)⟩
      · have h5 : ones = 5 := by have := V.int.inj (of_decide_eq_true e); omega
        rw [if_pos h5] at hu
        refine ⟨_, rfl, a, _, rfl, .inl (sm.seq hS), mk_inner (log_le (by rw [List.length_map]; omega)) (fun H3 d s4 nd ed => qf hB _ hu.symm H3 d (sm.trans s4) (sm.free nd) ed)⟩
      · have h5 : ¬ ones = 5 := fun y => e (decide_eq_true (by rw [y]; rfl))
        rw [if_neg h5] at hu
        exact ⟨_, rfl, q hB row hu.symm H' o sm n0 eo⟩
theorem sc_moved_on : FnScope ["cells", "bit", "front", "moved", "place"] ["cells", "bit"] (defScope s_moved_on) := ⟨rfl, rfl, rfl, by decide +kernel, rfl, by decide +kernel, by decide +kernel⟩
/-- the register one bit on -/
def spMoved (K : PySem.W.Frag) : Sp := fun vs H Q _ => ∃ (a : Addr) (c : Nat) (b : Int), vs = [.ref a, .int b] ∧ c < 65536 ∧ (b = 0 ∨ b = 1) ∧ SqL K H a ((wr 16 (c : Int)).map V.int) ∧ ∀ (H' : Hp) (p : Addr), Same H H' → H p = none → H' p = some (.lst ((wr 16 (stepR c b : Nat)).map V.int)) → Q (.ref p) H'
theorem ok_moved_on {f a_TURNED : Addr} {fd : FuncData} {k : Nat} (F : Fun K "moved_on" "moved_on" s_moved_on f fd) (g_TURNED : mg "TURNED" = some (.ref a_TURNED)) (hT : ∀ H, SqT K H a_TURNED [.int 3, .int 10, .int 15]) : FnOk P w K mg base CX0 (k + 1) f fd ["cells", "bit"] (spMoved K) := by
  have sc := sc_moved_on
  refine F.ok sc (fun vs H Q E h => ?_) (fun cdv A outer s H vs Q E hr h => ?_)
  · obtain ⟨a, c, b, rfl, _⟩ := h
    rfl
  · obtain ⟨a, c, b, rfl, hc, hb, hS, q⟩ := h
    refine ⟨_, (pss_cons (ps_set (i := 2) sc.nd rfl (.inl rfl) (pe_op op_xor (pe_ix (ix_listK K rfl) (pv 0) pe_int (fun _ _ => rfl)) (pv 1)))
 (pss_cons (ps_set (i := 3) sc.nd rfl (.inl rfl) (pe_op op_cat (pe_slice (sl_listK K rfl) (pv 0) (po_some pe_int) po_none) (pe_lst (pa_cons pe_int pa_nil))))
 (pss_cons (ps_if (pt_cmpR op_eq (pv 2) pe_int (nomark _))
  (pss_one (ps_for PassesOwn.never rfl (pi_tupK K rfl (pe_glob (v := .ref a_TURNED) (by rfl) g_TURNED rfl)) (pg_name (i := 4) sc.nd rfl (.inl rfl))
  (pss_one (ps_asg (pe_op op_sub pe_int (pe_ix (ix_listK K rfl) (pv 3) (pv 4) (fun _ _ => rfl))) (pg_sub (pv 3) (pv 4) set_list)))))
  pss_nil)
 (pss_one (ps_ret (pv 3)))))), ?_⟩
    have h0 : atI ((wr 16 (c : Int)).map V.int) 0 = some (.int ((c / 32768 : Nat) : Int)) := by
      have e : ((c : Int) / 2 ^ 15) % 2 = ((c / 32768 : Nat) : Int) := by omega
      show some (V.int (((c : Int) / 2 ^ 15) % 2)) = _
      rw [e]
    have hcut : cutV ((wr 16 (c : Int)).map V.int) (some 1) none = ((wr 16 (c : Int)).drop 1).map V.int := rfl
    have hmap : cutV ((wr 16 (c : Int)).map V.int) (some 1) none ++ [V.int 0] = (wr 16 ((c * 2 % 65536 : Nat) : Int)).map V.int := by
      rw [hcut, wr_shift, List.map_append]
      rfl
    refine ⟨_, rfl, a, _, 0, _, rfl, rfl, hS, h0, _, rfl, _, _, rfl, rfl, ?_⟩
    refine ⟨_, rfl, 1, rfl, a, _, rfl, hS, fun p1 n1 => ?_⟩
    have s1 : Same H (upd H p1 (.lst (cutV ((wr 16 (c : Int)).map V.int) (some 1) none))) := same_upd n1
    refine ⟨(by show 1 ≤ sizeLine; decide), fun p2 n2 => ?_⟩
    have s2 := s1.trans (same_upd (o := .lst [.int 0]) n2)
    have n21 : p1 ≠ p2 := ne_of_none upd_same n2
    refine ⟨p1, p2, _, _, rfl, rfl, (by rw [upd_ne n21]; exact upd_same), upd_same, ?_, fun p3 n3 => ?_⟩
    · rw [hcut, List.length_map, List.length_drop, wr_len]
      decide
    rw [hmap]
    have s3 := s2.trans (same_upd (o := .lst ((wr 16 ((c * 2 % 65536 : Nat) : Int)).map V.int)) n3)
    have n03 : H p3 = none := s2.free n3
    refine name_by ?_
    dsimp only
    refine if_by (J := fun σ1 H1 => ∃ y2 y4, σ1 = [some (.ref a), some (.int b), y2, some (.ref p3), y4] ∧ Same H H1 ∧ H1 p3 = some (.lst ((wr 16 (stepR c b : Nat)).map V.int))) ?_ (fun rest => ?_)
    · rintro σ1 H1 ⟨y2, y4, rfl, sm, e3⟩
      exact ⟨_, rfl, q H1 p3 sm n03 e3⟩
    · have hx : c / 32768 = 0 ∨ c / 32768 = 1 := by omega
      refine ⟨_, rfl, rfl, _, rfl, ite2 (fun e => ?_) (fun e => ?_)⟩
      · have hne : ¬ ((c / 32768 : Nat) : Int) = b := by
          have e := V.int.inj (of_decide_eq_true e)
          rcases hx with hx | hx <;> rcases hb with rfl | rfl <;> rw [hx] at e ⊢ <;> revert e <;> decide
        have est : stepR c b = (c * 2 % 65536) ^^^ 4129 := if_neg hne
        have efl : (wr 16 (stepR c b : Nat)) = fl (fl (fl (wr 16 ((c * 2 % 65536 : Nat) : Int)) 3) 10) 15 := by rw [est]; exact wr_flip _
        generalize hM : wr 16 ((c * 2 % 65536 : Nat) : Int) = M at efl s3 ⊢
        have lM : M.length = 16 := by rw [← hM]; exact wr_len _ _
        have lfl : ∀ (L : List Int) (j : Nat), (fl L j).length = L.length := fun L j => by unfold fl; exact List.length_set
        refine ⟨a_TURNED, rfl, ⟨_, hT _⟩, for_tup (K := K) (a := a_TURNED) (xs := [.int 3, .int 10, .int 15]) (fun i σ H' => ∃ y2 y4, σ = [some (.ref a), some (.int b), y2, some (.ref p3), y4] ∧ Same H H' ∧ H' p3 = some (.lst ((([3, 10, 15].take i).foldl fl M).map V.int)))
          ⟨_, none, rfl, s3, upd_same⟩ (fun _ _ _ _ _ => hT _) ?_ ?_⟩
        · rintro i x σ H' hi ⟨y2, y4, rfl, sm, e3⟩
          have fin : ∀ (j : Nat) (L : List Int), L.length = 16 → j < 16 → x = .int (j : Int) → H' p3 = some (.lst (L.map V.int)) → (([3, 10, 15].take (i + 1)).foldl fl M) = fl L j →
              ∃ jj : Nat, x = .int (jj : Int) ∧ ∃ v, atI (L.map V.int) (jj : Int) = some (.int v) ∧ ixN (L.map V.int).length (jj : Int) = some jj ∧ (([3, 10, 15].take (i + 1)).foldl fl M).map V.int = (L.map V.int).set jj (.int (1 - v)) := by
            intro j L hL hj hxj e3 en
            have g : L[j]? = some (L.getD j 0) := by
              rw [List.getD_eq_getElem?_getD, List.getElem?_eq_getElem (by omega)]
              rfl
            refine ⟨j, hxj, L.getD j 0, atI_nat (by rw [List.getElem?_map, g]; rfl), ?_, ?_⟩
            · unfold ixN
              rw [List.length_map, hL, if_pos (by omega), if_pos (by omega)]
              simp
            · rw [en]
              unfold fl
              rw [List.map_set]
          obtain ⟨L, e3', jj, rfl, v, ga, gi, en⟩ : ∃ L : List Int, H' p3 = some (.lst (L.map V.int)) ∧ ∃ jj : Nat, x = .int (jj : Int) ∧ ∃ v, atI (L.map V.int) (jj : Int) = some (.int v) ∧ ixN (L.map V.int).length (jj : Int) = some jj ∧ (([3, 10, 15].take (i + 1)).foldl fl M).map V.int = (L.map V.int).set jj (.int (1 - v)) := by
            match i, hi, e3, fin with
            | 0, hi, e3, fin => exact ⟨M, e3, fin 3 M lM (by omega) (Option.some.inj hi).symm e3 rfl⟩
            | 1, hi, e3, fin => exact ⟨fl M 3, e3, fin 10 (fl M 3) (by rw [lfl]; exact lM) (by omega) (Option.some.inj hi).symm e3 rfl⟩
            | 2, hi, e3, fin => exact ⟨fl (fl M 3) 10, e3, fin 15 (fl (fl M 3) 10) (by rw [lfl, lfl]; exact lM) (by omega) (Option.some.inj hi).symm e3 rfl⟩
          refine ⟨_, rfl, _, rfl, p3, _, _, _, rfl, rfl, SqL.of e3', ga, _, _, rfl, rfl, _, rfl, _, rfl, p3, _, _, jj, rfl, rfl, e3', gi, _, _, rfl, same_mut sm n03, ?_⟩
          rw [upd_same, en]
        · rintro σ H' ⟨y2, y4, rfl, sm, e3⟩
          exact rest _ _ ⟨_, _, rfl, sm, by rw [efl]; exact e3⟩
      · have heq : ((c / 32768 : Nat) : Int) = b := by
          have e : ¬ Builtin.bitXor ((c / 32768 : Nat) : Int) b = 1 := fun z => e (decide_eq_true (by rw [← z]))
          rcases hx with hx | hx <;> rcases hb with rfl | rfl <;> rw [hx] at e ⊢ <;> revert e <;> decide
        exact rest _ _ ⟨_, none, rfl, s3, by rw [upd_same, show stepR c b = c * 2 % 65536 from if_pos heq]⟩
theorem sc_seal_of : FnScope ["bits", "cells", "bit"] ["bits"] (defScope s_seal_of) := ⟨rfl, rfl, rfl, by decide +kernel, rfl, by decide +kernel, by decide +kernel⟩
/-- the seal -/
def spSealN (K : PySem.W.Frag) : Sp := fun vs H Q _ => ∃ (a : Addr) (ns : List Int), vs = [.ref a] ∧ SqL K H a (ns.map V.int) ∧ Bits ns ∧ ns.length ≤ 10000 ∧ ∀ (H' : Hp) (p : Addr), Same H H' → H p = none → H' p = some (.lst ((sealL ns).map V.int)) → Q (.ref p) H'
theorem ok_seal_of {f cB : Addr} {fd : FuncData} {k : Nat} {tS : Tok} (F : Fun K "seal_of" "seal_of" s_seal_of f fd) (g_SEAL : mg "SEAL" = some (.int 16 tS)) (c_check_bits : CalX P w K mg base k "check_bits" ["bits"] (spCheckX K cB)) (c_moved_on : Cal P w K mg base k "moved_on" ["cells", "bit"] (spMoved K)) :
    FnOk P w K mg base CX0 (k + 1) f fd ["bits"] (spSealN K) := by
  have sc := sc_seal_of
  refine F.ok sc (fun vs H Q E h => ?_) (fun cdv A outer s H vs Q E hr h => ?_)
  · obtain ⟨a, ns, rfl, _⟩ := h
    rfl
  · obtain ⟨a, ns, rfl, hS, hB, hl, q⟩ := h
    refine ⟨_, (pss_cons (ps_expr (pe_callF c_check_bits hr (by rfl) (pa_cons (pv 0) pa_nil)))
 (pss_cons (ps_set (i := 1) sc.nd rfl (.inl rfl) (pe_op op_rep (pe_lst (pa_cons pe_int pa_nil)) (pe_glob (v := .int 16) (by rfl) g_SEAL ⟨_, rfl⟩)))
 (pss_cons (ps_for PassesOwn.never rfl (pi_listK K rfl (pv 0)) (pg_name (i := 2) sc.nd rfl (.inl rfl))
  (pss_one (ps_set (i := 1) sc.nd rfl (.inl rfl) (pe_callC c_moved_on hr (by rfl) (pa_cons (pv 1) (pa_cons (pv 2) pa_nil))))))
 (pss_one (ps_ret (pv 1)))))), ?_⟩
    refine ⟨_, rfl, a, ns, rfl, hS, by omega, (fun _ H1 s1 => ?_), (fun i z hz nb => (nb (hB z (List.mem_of_getElem? hz))).elim)⟩
    refine ⟨(by show 1 ≤ sizeLine; decide), fun p1 n1 => ?_⟩
    refine ⟨p1, 16, _, rfl, rfl, upd_same, by decide, by decide, by decide, fun p2 n2 => ?_⟩
    have s2 := s1.trans (same_upd (o := .lst [.int 1]) n1)
    have e0 : (List.replicate (Int.toNat 16) [V.int 1]).flatten = (sealL (ns.take 0)).map V.int := by
      show _ = (wr 16 65535).map V.int
      rfl
    rw [e0]
    have s3 := s2.trans (same_upd (o := .lst ((sealL (ns.take 0)).map V.int)) n2)
    refine ⟨_, rfl, a, rfl, ⟨_, s3.seq hS⟩, for_list (K := K) (a := a) (xs := ns.map V.int) (fun i σ H' => ∃ (p : Addr) (y : Option V), σ = [some (.ref a), some (.ref p), y] ∧ Same H H' ∧ H p = none ∧ H' p = some (.lst ((sealL (ns.take i)).map V.int)))
      ⟨p2, none, rfl, s3, s2.free n2, upd_same⟩ (fun i σ H' _ h => ?_) ?_ ?_⟩
    · obtain ⟨p, y, _, sm, _⟩ := h
      exact sm.seq hS
    · rintro i y σ H' hi ⟨p, y2, rfl, sm, np, ep⟩
      obtain ⟨z, hz, rfl⟩ := getI hi
      refine ⟨_, rfl, _, rfl, p, regs (ns.take i), z, rfl, regs_lt _, hB z (List.mem_of_getElem? hz), SqL.of ep, fun H2 p' s4 n4 e4 => ?_⟩
      refine ⟨p', _, rfl, sm.trans s4, sm.free n4, ?_⟩
      rw [e4]
      unfold sealL
      rw [regs_more hz]
    · rintro σ H' ⟨p, y, rfl, sm, np, ep⟩
      rw [List.length_map, List.take_length] at ep
      exact ⟨_, rfl, q H' p sm np ep⟩
theorem sc_holds : FnScope ["bits", "end"] ["bits"] (defScope s_holds) := ⟨rfl, rfl, rfl, by decide +kernel, rfl, by decide +kernel, by decide +kernel⟩
def spHolds (K : PySem.W.Frag) : Sp := fun vs H Q _ => ∃ (a : Addr) (ns : List Int), vs = [.ref a] ∧ SqL K H a (ns.map V.int) ∧ Bits ns ∧ ns.length ≤ 10000 ∧ ∀ H', Same H H' → Q (.bl (holdsB ns)) H'
theorem cut_to {ns : List Int} {n : Nat} (h : n ≤ ns.length) : cutV (ns.map V.int) none (some (n : Int)) = (ns.take n).map V.int := by
  unfold cutV
  rw [HT.sIx_none, HT.sIx_nat, List.length_map, Nat.min_eq_left h]
  simp
theorem cut_from {ns : List Int} {n : Nat} (h : n ≤ ns.length) : cutV (ns.map V.int) (some (n : Int)) none = (ns.drop n).map V.int := by
  unfold cutV
  rw [HT.sIx_none, HT.sIx_nat, List.length_map, Nat.min_eq_left h]
  rw [← List.map_drop]
  exact List.take_of_length_le (by simp)
theorem ok_holds {f cB : Addr} {fd : FuncData} {k : Nat} {tS : Tok} (F : Fun K "holds" "holds" s_holds f fd) (n_len : mg "len" = none) (n_list : mg "list" = none) (g_SEAL : mg "SEAL" = some (.int 16 tS)) (c_check_bits : CalX P w K mg base k "check_bits" ["bits"] (spCheckX K cB)) (c_seal_of : Cal P w K mg base k "seal_of" ["bits"] (spSealN K)) :
    FnOk P w K mg base CX0 (k + 1) f fd ["bits"] (spHolds K) := by
  have sc := sc_holds
  refine F.ok sc (fun vs H Q E h => ?_) (fun cdv A outer s H vs Q E hr h => ?_)
  · obtain ⟨a, ns, rfl, _⟩ := h
    rfl
  · obtain ⟨a, ns, rfl, hS, hB, hl, q⟩ := h
    refine ⟨_, (pss_cons (ps_expr (pe_callF c_check_bits hr (by rfl) (pa_cons (pv 0) pa_nil)))
 (pss_cons (ps_if (pt_cmpR op_lt (pe_callB (call_lenK K rfl) (by rfl) n_len PySem.boot_len (pa_cons (pv 0) pa_nil)) (pe_glob (v := .int 16) (by rfl) g_SEAL ⟨_, rfl⟩) (nomark _))
  (pss_one (ps_ret pe_bl))
  pss_nil)
 (pss_cons (ps_set (i := 1) sc.nd rfl (.inl rfl) (pe_op op_sub (pe_callB (call_lenK K rfl) (by rfl) n_len PySem.boot_len (pa_cons (pv 0) pa_nil)) (pe_glob (v := .int 16) (by rfl) g_SEAL ⟨_, rfl⟩)))
 (pss_one (ps_ret (pe_cmpR (op_eqDK K rfl hr.units) (pe_callC c_seal_of hr (by rfl) (pa_cons (pe_slice (sl_listK K rfl) (pv 0) po_none (po_some (pv 1))) pa_nil)) (pe_callTy (call_listK K rfl) (by rfl) n_list (by decide +kernel) (pa_cons (pe_slice (sl_listK K rfl) (pv 0) (po_some (pv 1)) po_none) pa_nil)) (nomark _))))))), ?_⟩
    refine ⟨_, rfl, a, ns, rfl, hS, by omega, (fun _ H1 s1 => ?_), (fun i z hz nb => (nb (hB z (List.mem_of_getElem? hz))).elim)⟩
    refine ⟨_, rfl, a, _, rfl, .inl (s1.seq hS), _, _, rfl, rfl, _, rfl, ite2 (fun e => ?_) (fun e => ?_)⟩
    · have hlt : ns.length < 16 := by
        have := of_decide_eq_true e
        rw [List.length_map] at this
        omega
      have := q H1 s1
      unfold holdsB at this
      rw [decide_eq_false (by omega : ¬ 16 ≤ ns.length)] at this
      exact this
    · have hge : 16 ≤ ns.length := by
        have e : ¬ ((ns.map V.int).length : Int) < 16 := fun z => e (decide_eq_true z)
        rw [List.length_map] at e
        omega
      have en : ((ns.map V.int).length : Int) - 16 = ((ns.length - 16 : Nat) : Int) := by rw [List.length_map]; omega
      refine ⟨_, rfl, a, _, rfl, .inl (s1.seq hS), _, _, rfl, rfl, ?_⟩
      refine ⟨_, rfl, _, rfl, _, rfl, a, _, rfl, s1.seq hS, fun p1 n1 => ?_⟩
      have hcut : cutV (ns.map V.int) none (some ((fun i j => i - j) ((ns.map V.int).length : Int) 16)) = (ns.take (ns.length - 16)).map V.int := by
        show cutV (ns.map V.int) none (some (((ns.map V.int).length : Int) - 16)) = _
        rw [en, cut_to (by omega)]
      have s2 := s1.trans (same_upd (o := .lst (cutV (ns.map V.int) none (some (((ns.map V.int).length : Int) - 16)))) n1)
      refine ⟨p1, ns.take (ns.length - 16), rfl, SqL.of ?_, fun z hz => hB z (List.mem_of_mem_take hz), (by rw [List.length_take]; omega), fun H3 p3 s3 n3 e3 => ?_⟩
      · rw [← hcut]
        exact upd_same
      · have s4 := s2.trans s3
        refine ⟨_, rfl, _, rfl, _, rfl, a, _, rfl, s4.seq hS, fun p4 n4 => ?_⟩
        refine ⟨p4, _, rfl, .inl (SqL.of upd_same), fun p5 n5 => ?_⟩
        have s5 := s4.trans (same_upd (o := .lst (cutV (ns.map V.int) (some (((ns.map V.int).length : Int) - 16)) none)) n4)
        have s6 := s5.trans (same_upd (o := .lst (cutV (ns.map V.int) (some (((ns.map V.int).length : Int) - 16)) none)) n5)
        have hcut2 : cutV (ns.map V.int) (some (((ns.map V.int).length : Int) - 16)) none = (ns.drop (ns.length - 16)).map V.int := by
          rw [en, cut_from (by omega)]
        have e3' : SqL K (upd (upd H3 p4 (.lst (cutV (ns.map V.int) (some (((ns.map V.int).length : Int) - 16)) none))) p5 (.lst (cutV (ns.map V.int) (some (((ns.map V.int).length : Int) - 16)) none))) p3 ((sealL (ns.take (ns.length - 16))).map V.int) := by
          refine SqL.of ?_
          rw [upd_ne (ne_of_none (same_upd n4 _ _ e3) n5), upd_ne (ne_of_none e3 n4)]
          exact e3
        refine ⟨_, _, dp_ints e3', dp_ints (ns := ns.drop (ns.length - 16)) (SqL.of (by rw [← hcut2]; exact upd_same)), shaped_ints _, shaped_ints _, ?_⟩
        rw [eqv_ints]
        have := q _ s6
        unfold holdsB at this
        rw [decide_eq_true hge, Bool.true_and] at this
        exact this
def markL : List Int := [0, 1, 1, 1, 1, 1, 1, 0]
theorem ust_row : ∀ (bs : List Int) {i : Nat} {row r : List Int} {ones : Nat}, ust bs i row ones = .inr r → r.length ≤ row.length + bs.length
  | [], i, row, r, ones, h => by
    have h : (if ones = 5 then Sum.inl i else Sum.inr row : Nat ⊕ List Int) = .inr r := h
    split at h
    · cases h
    · cases h
      exact Nat.le_refl _
  | b :: t, i, row, r, ones, h => by
    have h : (if ones < 5 then ust t (i + 1) (row ++ [b]) (if b = 1 then ones + 1 else 0) else if b = 0 then ust t (i + 1) row 0 else .inl i : Nat ⊕ List Int) = .inr r := h
    rw [List.length_cons]
    split at h
    · have := ust_row t h
      rw [List.length_append] at this
      have e : [b].length = 1 := rfl
      omega
    · split at h
      · have := ust_row t h
        omega
      · cases h
theorem ust_bits : ∀ (bs : List Int) {i : Nat} {row r : List Int} {ones : Nat}, ust bs i row ones = .inr r → Bits bs → Bits row → Bits r
  | [], i, row, r, ones, h, _, hr => by
    have h : (if ones = 5 then Sum.inl i else Sum.inr row : Nat ⊕ List Int) = .inr r := h
    split at h
    · cases h
    · cases h
      exact hr
  | b :: t, i, row, r, ones, h, hb, hr => by
    have h : (if ones < 5 then ust t (i + 1) (row ++ [b]) (if b = 1 then ones + 1 else 0) else if b = 0 then ust t (i + 1) row 0 else .inl i : Nat ⊕ List Int) = .inr r := h
    have hb := bits_cons hb
    split at h
    · exact ust_bits t h hb.2 (bits_app hr (bits_one hb.1))
    · split at h
      · exact ust_bits t h hb.2 hr
      · cases h
/-- the payload of what lies between two marks -/
def judge (ns : List Int) : Option (List Int) := match U ns with
  | .inl _ => none
  | .inr row => if 16 < row.length ∧ row.length < 273 ∧ sealL (row.take (row.length - 16)) = row.drop (row.length - 16) then some (row.take (row.length - 16)) else none
theorem judge_l {ns : List Int} {i : Nat} (h : U ns = .inl i) : judge ns = none := by
  unfold judge
  rw [h]
theorem judge_r {ns row : List Int} (h : U ns = .inr row) : judge ns = if 16 < row.length ∧ row.length < 273 ∧ sealL (row.take (row.length - 16)) = row.drop (row.length - 16) then some (row.take (row.length - 16)) else none := by
  unfold judge
  rw [h]
theorem judge_holds {ns row : List Int} (h : U ns = .inr row) : judge ns = if holdsB row = true ∧ 0 < row.length - 16 ∧ row.length - 16 ≤ 256 then some (row.take (row.length - 16)) else none := by
  rw [judge_r h]
  have hh : holdsB row = true ↔ 16 ≤ row.length ∧ sealL (row.take (row.length - 16)) = row.drop (row.length - 16) := by
    unfold holdsB
    rw [Bool.and_eq_true, decide_eq_true_iff, decide_eq_true_iff]
  by_cases c : 16 < row.length ∧ row.length < 273 ∧ sealL (row.take (row.length - 16)) = row.drop (row.length - 16)
  · rw [if_pos c, if_pos ⟨hh.mpr ⟨by omega, c.2.2⟩, by omega, by omega⟩]
  · rw [if_neg c, if_neg (fun z => c ⟨by omega, by omega, (hh.mp z.1).2⟩)]
theorem sc_payload_between : FnScope ["bits", "row", "payload"] ["bits"] (defScope s_payload_between) := ⟨rfl, rfl, rfl, by decide +kernel, rfl, by decide +kernel, by decide +kernel⟩
def spPb (K : PySem.W.Frag) : Sp := fun vs H Q _ => ∃ (a : Addr) (ns : List Int), vs = [.ref a] ∧ SqL K H a (ns.map V.int) ∧ Bits ns ∧ ns.length ≤ 9000 ∧
  (judge ns = none → ∀ H', Same H H' → Q .non H') ∧ (∀ pl, judge ns = some pl → ∀ (H' : Hp) (p : Addr), Same H H' → H p = none → H' p = some (.lst (pl.map V.int)) → Q (.ref p) H')
theorem ok_payload_between {f cB cF : Addr} {fd : FuncData} {k : Nat} {tS tL : Tok} (F : Fun K "payload_between" "payload_between" s_payload_between f fd) (n_len : mg "len" = none) (g_SEAL : mg "SEAL" = some (.int 16 tS)) (g_LONGEST : mg "LONGEST" = some (.int 256 tL)) (g_BadFrame : mg "BadFrame" = some (.ref cF))
    (ff : PySem.W.exmOne K (.ref cF) (.ref cF) = some true) (c_unstuffed : CalX P w K mg base k "unstuffed" ["bits"] (spUnX K cB cF)) (c_holds : Cal P w K mg base k "holds" ["bits"] (spHolds K)) : FnOk P w K mg base CX0 (k + 1) f fd ["bits"] (spPb K) := by
  have sc := sc_payload_between
  refine F.ok sc (fun vs H Q E h => ?_) (fun cdv A outer s H vs Q E hr h => ?_)
  · obtain ⟨a, ns, rfl, _⟩ := h
    rfl
  · obtain ⟨a, ns, rfl, hS, hB, hl, qn, qs⟩ := h
    refine ⟨_, (pss_cons (ps_try_only rfl rfl ⟨by rfl, by decide, .inl g_BadFrame⟩ LamX.takes0 (fun W pn xe tk _ => (pss_one (ps_set (i := 1) sc.nd rfl (.inl rfl) (pe_callP c_unstuffed hr (passes_call (E := fun cls d H2 => ∀ σ2, W cls d σ2 H2) tk (fun _ _ σ2 _ h => h σ2)) (by rfl) (pa_cons (pv 0) pa_nil))))) (fun a oe cls d pn hz hf => (pss_one (ps_ret pe_non))))
 (pss_cons (ps_if (pt_not (pt_val (pe_callC c_holds hr (by rfl) (pa_cons (pv 1) pa_nil))))
  (pss_one (ps_ret pe_non))
  pss_nil)
 (pss_cons (ps_set (i := 2) sc.nd rfl (.inl rfl) (pe_slice (sl_listK K rfl) (pv 1) po_none (po_some (pe_op op_sub (pe_callB (call_lenK K rfl) (by rfl) n_len PySem.boot_len (pa_cons (pv 1) pa_nil)) (pe_glob (v := .int 16) (by rfl) g_SEAL ⟨_, rfl⟩)))))
 (pss_cons (ps_if (PW.pt (pw_or (pt_cmpR op_eq (pe_callB (call_lenK K rfl) (by rfl) n_len PySem.boot_len (pa_cons (pv 2) pa_nil)) pe_int (nomark _)) (pw_or1 (pt_cmpR op_gt (pe_callB (call_lenK K rfl) (by rfl) n_len PySem.boot_len (pa_cons (pv 2) pa_nil)) (pe_glob (v := .int 256) (by rfl) g_LONGEST ⟨_, rfl⟩) (nomark _)))))
  (pss_one (ps_ret pe_non))
  pss_nil)
 (pss_one (ps_ret (pv 2))))))), ?_⟩
    refine ⟨_, rfl, a, ns, rfl, hS, by omega, (fun _ row hU H1 p1 s1 n1 e1 => ?_), (fun _ i hU H1 d s1 nd ed => ?_), (fun i z hz nb => (nb (hB z (List.mem_of_getElem? hz))).elim)⟩
    · have hrb : Bits row := ust_bits ns hU hB bits_nil
      have hrl : row.length ≤ ns.length := by
        have := ust_row ns hU
        rw [List.length_nil, Nat.zero_add] at this
        exact this
      refine ⟨_, rfl, p1, row, rfl, SqL.of e1, hrb, by omega, fun H2 s2 => ?_⟩
      have s12 := s1.trans s2
      have hj := judge_holds hU
      refine ⟨_, rfl, ite2 (fun e => ?_) (fun e => ?_)⟩
      · have hf : ¬ holdsB row = true := by
          have e : (!holdsB row) = true := e
          intro z
          rw [z] at e
          exact absurd e (by decide)
        rw [if_neg (fun z => hf z.1)] at hj
        exact qn hj _ s12
      · have hf : holdsB row = true := by
          have e : ¬ (!holdsB row) = true := e
          cases z : holdsB row with
          | true => rfl
          | false => rw [z] at e; exact absurd rfl e
        have h16 : 16 ≤ row.length := by
          unfold holdsB at hf
          rw [Bool.and_eq_true] at hf
          exact of_decide_eq_true hf.1
        refine ⟨_, rfl, _, rfl, p1, _, rfl, .inl (SqL.of (s2 _ _ e1)), _, _, rfl, rfl, _, rfl, p1, _, rfl, SqL.of (s2 _ _ e1), fun p3 n3 => ?_⟩
        have ec : cutV (row.map V.int) none (some (((row.map V.int).length : Int) - 16)) = (row.take (row.length - 16)).map V.int := by
          rw [List.length_map, show (row.length : Int) - 16 = ((row.length - 16 : Nat) : Int) by omega, cut_to_n, List.map_take]
        rw [ec]
        have s3 := s12.trans (same_upd (o := .lst ((row.take (row.length - 16)).map V.int)) n3)
        have elen : ((row.take (row.length - 16)).map V.int).length = row.length - 16 := by rw [List.length_map, List.length_take]; omega
        refine ⟨_, rfl, p3, _, rfl, .inl (SqL.of upd_same), rfl, _, rfl, ite2 (fun e => ?_) (fun e => ?_)⟩
        · have h0 : row.length - 16 = 0 := by
            have := V.int.inj (of_decide_eq_true e)
            rw [elen] at this
            omega
          rw [if_neg (fun z => by omega)] at hj
          exact qn hj _ s3
        · have h0 : 0 < row.length - 16 := by
            rcases Nat.eq_zero_or_pos (row.length - 16) with z | z
            · exfalso
              refine e (decide_eq_true ?_)
              rw [elen, z]
              rfl
            · exact z
          refine ⟨_, rfl, p3, _, rfl, .inl (SqL.of upd_same), _, _, rfl, rfl, _, rfl, ite2 (fun e => ?_) (fun e => ?_)⟩
          · have h1 : 256 < row.length - 16 := by
              have := of_decide_eq_true e
              rw [elen] at this
              omega
            rw [if_neg (fun z => by omega)] at hj
            exact qn hj _ s3
          · have h1 : row.length - 16 ≤ 256 := by
              rcases Nat.lt_or_ge 256 (row.length - 16) with z | z
              · exfalso
                refine e (decide_eq_true ?_)
                rw [elen]
                omega
              · exact z
            rw [if_pos ⟨hf, h0, h1⟩] at hj
            exact ⟨_, rfl, qs _ hj _ p3 s3 (s12.free n3) upd_same⟩
    · exact fun σ2 => ⟨true, ff, (fun _ a _ => qn (judge_l hU) _ s1), (fun z => by cases z)⟩
/-! ### readers -/
structure RdC (K : PySem.W.Frag) (C : Addr) : Prop where
  cls : Cls K C
  nl : NoAttr K C "last"
  nb : NoAttr K C "behind"
  ns : NoAttr K C "spoilt"
abbrev rdF (l : Addr) (bv : V) (n : Nat) : List (Str × V) := [(("last" : Str), .ref l), (("behind" : Str), bv), (("spoilt" : Str), .int (n : Int))]
def bvO : Option (Addr × List Int) → V
  | none => .non
  | some x => .ref x.1
def PmOut (H H' : Hp) (nb : Addr) (B : Option (Addr × List Int)) (n : Nat) (v : V) (n' : Nat) : Prop :=
  ((∀ x, B = some x → x.2.length ≤ 8) ∧ v = .non ∧ n' = n) ∨ (∃ x, B = some x ∧ 8 < x.2.length ∧ judge (x.2.take (x.2.length - 8)) = none ∧ v = .non ∧ n' = n + 1) ∨
  (∃ x p pp, B = some x ∧ 8 < x.2.length ∧ judge (x.2.take (x.2.length - 8)) = some p ∧ v = .ref pp ∧ n' = n ∧ H pp = none ∧ H' pp = some (.lst (p.map V.int)) ∧ pp ≠ nb)
theorem mark_len : (markL.map V.int).length = 8 := rfl
theorem sc_Reader___init__ : FnScope ["self"] ["self"] (defScope m_Reader___init__) := ⟨rfl, rfl, rfl, by decide +kernel, rfl, by decide +kernel, by decide +kernel⟩
def spRi (C : Addr) : Sp := fun vs H Q _ => ∃ (r dx : Addr), vs = [.ref r] ∧ H r = some (.ins C dx []) ∧ ∀ (l : Addr), H l = none → Q .non (upd (upd H l (.lst [])) r (.ins C dx (rdF l .non 0)))
theorem ok_Reader___init__ {f C : Addr} {fd : FuncData} {k : Nat} (F : Fun K "__init__" "Reader.__init__" m_Reader___init__ f fd) (R : RdC K C) : FnOk P w K mg base CX0 (k + 1) f fd ["self"] (spRi C) := by
  have sc := sc_Reader___init__
  refine F.ok sc (fun vs H Q E h => ?_) (fun cdv A outer s H vs Q E hr h => ?_)
  · obtain ⟨r, dx, rfl, _⟩ := h
    rfl
  · obtain ⟨r, dx, rfl, hr_, q⟩ := h
    refine ⟨_, (pss_cons (ps_fldK K rfl (pv 0) (pe_lst pa_nil))
 (pss_cons (ps_fldK K rfl (pv 0) pe_non)
 (pss_one (ps_fldK K rfl (pv 0) pe_int)))), ?_⟩
    refine ⟨Nat.zero_le _, fun l nl => ?_⟩
    refine ⟨_, rfl, r, C, dx, _, rfl, same_upd nl _ _ hr_, R.cls, R.nl, (by show 0 < 1000; decide), ?_⟩
    refine ⟨_, rfl, r, C, dx, _, rfl, upd_same, R.cls, R.nb, (by show 1 < 1000; decide), ?_⟩
    rw [upd_upd]
    refine ⟨_, rfl, r, C, dx, _, rfl, upd_same, R.cls, R.ns, (by show 2 < 1000; decide), ?_⟩
    rw [upd_upd]
    exact q l nl
/-! ### a stream as it is heard: all signs since it was begun, where the last mark ended (-1: none is awaited), how many were hurt -/
structure LS where
  seen : List Int
  en : Int
  hurt : Nat
def LS.Ok (S : LS) : Prop := Bits S.seen ∧ (S.en = -1 ∨ (0 ≤ S.en ∧ S.en ≤ S.seen.length))
def lastOf (l : List Int) : List Int := l.drop (l.length - 8)
def hstep (S : LS) (b : Int) : LS × Option (List Int) :=
  if lastOf (S.seen ++ [b]) = markL then
    if S.en < 0 ∨ ((S.seen ++ [b]).length : Int) - 8 ≤ S.en then (⟨S.seen ++ [b], (S.seen ++ [b]).length, S.hurt⟩, none)
    else match judge (((S.seen ++ [b]).drop S.en.toNat).take ((S.seen ++ [b]).length - 8 - S.en.toNat)) with
      | none => (⟨S.seen ++ [b], (S.seen ++ [b]).length, S.hurt + 1⟩, none)
      | some p => (⟨S.seen ++ [b], (S.seen ++ [b]).length, S.hurt⟩, some p)
  else if 0 ≤ S.en ∧ 400 < ((S.seen ++ [b]).length : Int) - S.en then (⟨S.seen ++ [b], -1, S.hurt + 1⟩, none)
  else (⟨S.seen ++ [b], S.en, S.hurt⟩, none)
theorem hstep_seen (S : LS) (b : Int) : (hstep S b).1.seen = S.seen ++ [b] := by
  unfold hstep
  split
  · split
    · rfl
    · split <;> rfl
  · split <;> rfl
theorem hstep_ok {S : LS} {b : Int} (h : S.Ok) (hb : isB b) : (hstep S b).1.Ok := by
  have h1 : Bits (S.seen ++ [b]) := bits_app h.1 (bits_one hb)
  have hl : (S.seen ++ [b]).length = S.seen.length + 1 := by rw [List.length_append]; rfl
  unfold hstep
  split
  · split
    · exact ⟨h1, .inr ⟨by show (0 : Int) ≤ ((S.seen ++ [b]).length : Int); omega, Int.le_refl _⟩⟩
    · split
      · exact ⟨h1, .inr ⟨by show (0 : Int) ≤ ((S.seen ++ [b]).length : Int); omega, Int.le_refl _⟩⟩
      · exact ⟨h1, .inr ⟨by show (0 : Int) ≤ ((S.seen ++ [b]).length : Int); omega, Int.le_refl _⟩⟩
  · split
    · exact ⟨h1, .inl rfl⟩
    · refine ⟨h1, ?_⟩
      rcases h.2 with e | ⟨e1, e2⟩
      · exact .inl e
      · exact .inr ⟨e1, by show S.en ≤ ((S.seen ++ [b]).length : Int); omega⟩
theorem last_more (l : List Int) (b : Int) : (lastOf l).drop ((lastOf l).length - 7) ++ [b] = lastOf (l ++ [b]) := by
  unfold lastOf
  rw [List.length_append, List.length_drop, List.drop_drop]
  show _ = (l ++ [b]).drop (l.length + 1 - 8)
  rw [List.drop_append_of_le_length (by omega)]
  congr 2
  omega
def hall (S : LS) (bs : List Int) : LS × List (List Int) := bs.foldl (fun T b => ((hstep T.1 b).1, T.2 ++ (hstep T.1 b).2.toList)) (S, [])
theorem hall_more {S : LS} {bs : List Int} {i : Nat} {b : Int} (h : bs[i]? = some b) : hall S (bs.take (i + 1)) = ((hstep (hall S (bs.take i)).1 b).1, (hall S (bs.take i)).2 ++ (hstep (hall S (bs.take i)).1 b).2.toList) := by
  unfold hall
  rw [take_more h, List.foldl_append]
  rfl
theorem hall_seen (S : LS) (bs : List Int) : ∀ i, i ≤ bs.length → (hall S (bs.take i)).1.seen = S.seen ++ bs.take i
  | 0, _ => by
    show S.seen = S.seen ++ []
    rw [List.append_nil]
  | i + 1, h => by
    have hi : i < bs.length := h
    rw [hall_more (List.getElem?_eq_getElem hi), hstep_seen, hall_seen S bs i (by omega), take_more (List.getElem?_eq_getElem hi), List.append_assoc]
theorem hall_ok {S : LS} {bs : List Int} (h : S.Ok) (hb : Bits bs) : ∀ i, i ≤ bs.length → (hall S (bs.take i)).1.Ok
  | 0, _ => h
  | i + 1, hl => by
    have hi : i < bs.length := hl
    rw [hall_more (List.getElem?_eq_getElem hi)]
    exact hstep_ok (hall_ok h hb i (by omega)) (hb _ (List.getElem_mem hi))
theorem toList_len {α : Type} (o : Option α) : o.toList.length ≤ 1 := by cases o <;> simp
theorem hall_len (S : LS) (bs : List Int) : ∀ i, i ≤ bs.length → (hall S (bs.take i)).2.length ≤ i
  | 0, _ => Nat.le_refl _
  | i + 1, h => by
    have hi : i < bs.length := h
    rw [hall_more (List.getElem?_eq_getElem hi)]
    have := hall_len S bs i (by omega)
    have := toList_len (hstep (hall S (bs.take i)).1 bs[i]).2
    show ((hall S (bs.take i)).2 ++ (hstep (hall S (bs.take i)).1 bs[i]).2.toList).length ≤ i + 1
    rw [List.length_append]
    omega
theorem sc_Reader_pass_mark : FnScope ["self", "between", "payload"] ["self"] (defScope m_Reader_pass_mark) := ⟨rfl, rfl, rfl, by decide +kernel, rfl, by decide +kernel, by decide +kernel⟩
def spPm (C : Addr) : Sp := fun vs H Q _ => ∃ (r dx l : Addr) (n : Nat) (B : Option (Addr × List Int)), vs = [.ref r] ∧ H r = some (.ins C dx (rdF l (bvO B) n)) ∧ (∀ x, B = some x → H x.1 = some (.lst (x.2.map V.int)) ∧ Bits x.2 ∧ x.2.length ≤ 9000) ∧
  ∀ (H' : Hp) (nb : Addr) (v : V) (n' : Nat), Mv r H H' → H nb = none → H' nb = some (.lst []) → H' r = some (.ins C dx (rdF l (.ref nb) n')) → PmOut H H' nb B n v n' → Q v H'
theorem ok_Reader_pass_mark {f C a_MARK : Addr} {fd : FuncData} {k : Nat} (F : Fun K "pass_mark" "Reader.pass_mark" m_Reader_pass_mark f fd) (n_len : mg "len" = none) (g_MARK : mg "MARK" = some (.ref a_MARK)) (h_MARK : ∀ H, SqT K H a_MARK (markL.map V.int)) (R : RdC K C) (c_payload_between : Cal P w K mg base k "payload_between" ["bits"] (spPb K)) :
    FnOk P w K mg base CX0 (k + 1) f fd ["self"] (spPm C) := by
  have sc := sc_Reader_pass_mark
  refine F.ok sc (fun vs H Q E h => ?_) (fun cdv A outer s H vs Q E hr h => ?_)
  · obtain ⟨r, dx, l, n, B, rfl, _⟩ := h
    rfl
  · obtain ⟨r, dx, l, n, B, rfl, hr_, hB, q⟩ := h
    refine ⟨_, (pss_cons (ps_set (i := 1) sc.nd rfl (.inl rfl) (pe_ifExp (pt_cmpR op_isN (pe_fldK K rfl (pv 0)) pe_non (nomark _)) (pe_lst pa_nil) (pe_slice (sl_listK K rfl) (pe_fldK K rfl (pv 0)) po_none (po_some (pe_un un_neg (pe_callB (call_lenK K rfl) (by rfl) n_len PySem.boot_len (pa_cons (pe_glob (v := .ref a_MARK) (by rfl) g_MARK rfl) pa_nil)))))))
 (pss_cons (ps_fldK K rfl (pv 0) (pe_lst pa_nil))
 (pss_cons (ps_if (pt_cmpR op_eq (pe_callB (call_lenK K rfl) (by rfl) n_len PySem.boot_len (pa_cons (pv 1) pa_nil)) pe_int (nomark _))
  (pss_one (ps_ret pe_non))
  pss_nil)
 (pss_cons (ps_set (i := 2) sc.nd rfl (.inl rfl) (pe_callC c_payload_between hr (by rfl) (pa_cons (pv 1) pa_nil)))
 (pss_cons (ps_if (pt_cmpR op_isN (pv 2) pe_non (nomark _))
  (pss_one (ps_fldaugK K rfl (pv 0) pe_int in_add))
  pss_nil)
 (pss_one (ps_ret (pv 2)))))))), ?_⟩
    refine asg_by (J := fun v H1 => ∃ p bt, v = .ref p ∧ Same H H1 ∧ H p = none ∧ H1 p = some (.lst (bt.map V.int)) ∧ ((B = none ∧ bt = []) ∨ ∃ x, B = some x ∧ bt = x.2.take (x.2.length - 8))) ?_ (fun rest => ?_)
    · rintro v H1 ⟨p, bt, rfl, s1, np, ep, hbt⟩
      have hbb : Bits bt ∧ bt.length ≤ 9000 := by
        rcases hbt with ⟨_, rfl⟩ | ⟨x, hx, rfl⟩
        · exact ⟨bits_nil, by decide⟩
        · have := hB x hx
          exact ⟨bits_take this.2.1 _, by rw [List.length_take]; omega⟩
      refine ⟨Nat.zero_le _, fun nb nnb => ?_⟩
      have hr1 := s1 _ _ hr_
      have hr2 : upd H1 nb (.lst []) r = some (.ins C dx (rdF l (bvO B) n)) := same_upd nnb _ _ hr1
      have nr : r ≠ nb := ne_of_none hr1 nnb
      refine ⟨_, rfl, r, C, dx, _, rfl, hr2, R.cls, R.nb, (by show 3 < 1000; decide), ?_⟩
      have eput : putF "behind" (.ref nb) (rdF l (bvO B) n) = rdF l (.ref nb) n := rfl
      rw [eput]
      have nbr : nb ≠ r := nr.symm
      have pr : p ≠ r := (ne_of_none hr_ np).symm
      have pnb : p ≠ nb := ne_of_none ep nnb
      have hH2 : ∀ a o, a ≠ r → H1 a = some o → upd (upd H1 nb (.lst [])) r (.ins C dx (rdF l (.ref nb) n)) a = some o := fun a o n1 e => by
        rw [upd_ne n1, upd_ne (ne_of_none e nnb)]
        exact e
      have enb : upd (upd H1 nb (.lst [])) r (.ins C dx (rdF l (.ref nb) n)) nb = some (.lst []) := by rw [upd_ne nbr, upd_same]
      have er : upd (upd H1 nb (.lst [])) r (.ins C dx (rdF l (.ref nb) n)) r = some (.ins C dx (rdF l (.ref nb) n)) := upd_same
      have ep2 := hH2 _ _ pr ep
      have mv2 : Mv r H (upd (upd H1 nb (.lst [])) r (.ins C dx (rdF l (.ref nb) n))) := fun a o n1 e => hH2 a o n1 (s1 _ _ e)
      generalize upd (upd H1 nb (.lst [])) r (.ins C dx (rdF l (.ref nb) n)) = H2 at hH2 enb er ep2 mv2 ⊢
      have nnb0 : H nb = none := s1.free nnb
      refine ⟨_, rfl, p, _, rfl, .inl (SqL.of ep2), rfl, _, rfl, ite2 (fun e => ?_) (fun e => ?_)⟩
      · have h0 : bt.length = 0 := by
          have := V.int.inj (of_decide_eq_true e)
          rw [List.length_map] at this
          omega
        refine q H2 nb .non n mv2 nnb0 enb er (.inl ⟨fun x hx => ?_, rfl, rfl⟩)
        rcases hbt with ⟨z, _⟩ | ⟨y, hy, rfl⟩
        · rw [z] at hx
          cases hx
        · rw [hy] at hx
          cases hx
          rw [List.length_take] at h0
          omega
      · have h0 : 0 < bt.length := by
          rcases Nat.eq_zero_or_pos bt.length with z | z
          · exfalso
            refine e (decide_eq_true ?_)
            rw [List.length_map, z]
            rfl
          · exact z
        obtain ⟨x, hx, rfl⟩ : ∃ x, B = some x ∧ bt = x.2.take (x.2.length - 8) := by
          rcases hbt with ⟨_, rfl⟩ | h
          · exact absurd h0 (by decide)
          · exact h
        have h8 : 8 < x.2.length := by
          rw [List.length_take] at h0
          omega
        refine ⟨_, rfl, p, _, rfl, SqL.of ep2, hbb.1, hbb.2, (fun hj H3 s3 => ?_), (fun pl hj H3 pp s3 npp epp => ?_)⟩
        · refine ⟨_, rfl, rfl, _, rfl, iteT ?_⟩
          refine ⟨_, rfl, r, C, dx, _, _, rfl, s3 _ _ er, R.cls, R.ns, rfl, _, _, rfl, rfl, dx, _, s3 _ _ er, (by show 3 < 1000; decide), ?_⟩
          have eput2 : putF "spoilt" (.int ((n : Int) + 1)) (rdF l (.ref nb) n) = rdF l (.ref nb) (n + 1) := rfl
          rw [eput2]
          refine ⟨_, rfl, ?_⟩
          refine q _ nb .non (n + 1) (fun a o n1 e => by rw [upd_ne n1]; exact s3 _ _ (mv2 a o n1 e)) nnb0 ?_ upd_same (.inr (.inl ⟨x, hx, h8, hj, rfl, rfl⟩))
          rw [upd_ne nbr]
          exact s3 _ _ enb
        · refine ⟨_, rfl, rfl, _, rfl, iteF ?_⟩
          refine ⟨_, rfl, ?_⟩
          have npp0 : H pp = none := by
            cases z : H pp with
            | none => rfl
            | some o =>
              by_cases y : pp = r
              · subst y
                rw [er] at npp
                cases npp
              · rw [mv2 _ _ y z] at npp
                cases npp
          exact q _ nb (.ref pp) n (fun a o n1 e => s3 _ _ (mv2 a o n1 e)) nnb0 (s3 _ _ enb) (s3 _ _ er) (.inr (.inr ⟨x, pl, pp, hx, h8, hj, rfl, rfl, npp0, epp, (ne_of_none enb npp).symm⟩))
    · refine ⟨_, rfl, r, C, dx, _, _, rfl, hr_, R.cls, R.nb, rfl, rfl, _, rfl, ?_⟩
      cases B with
      | none =>
        refine iteT ?_
        exact ⟨Nat.zero_le _, fun p np => rest _ _ ⟨p, [], rfl, same_upd np, np, upd_same, .inl ⟨rfl, rfl⟩⟩⟩
      | some x =>
        obtain ⟨hx, hxb, hxl⟩ := hB x rfl
        refine iteF ?_
        refine ⟨_, rfl, r, C, dx, _, _, rfl, hr_, R.cls, R.nb, rfl, a_MARK, _, rfl, .inr (h_MARK _), _, rfl, _, rfl, x.1, _, rfl, SqL.of hx, fun p np => ?_⟩
        have ec : cutV (x.2.map V.int) none (some (-((markL.map V.int).length : Int))) = (x.2.take (x.2.length - 8)).map V.int := by
          rw [mark_len, cut_to_b _ 8 (by decide), List.length_map, List.map_take]
        rw [ec]
        exact rest _ _ ⟨p, _, rfl, same_upd np, np, upd_same, .inr ⟨x, rfl, rfl⟩⟩
theorem sc_Reader_hurt : FnScope ["self"] ["self"] (defScope m_Reader_hurt) := ⟨rfl, rfl, rfl, by decide +kernel, rfl, by decide +kernel, by decide +kernel⟩
/-- a reader at r that stands so -/
structure Rdr (C r l bh : Addr) (S : LS) (H : Hp) : Prop where
  ins : ∃ dx, H r = some (.ins C dx (rdF l (if S.en < 0 then .non else .ref bh) S.hurt))
  last : H l = some (.lst ((lastOf S.seen).map V.int))
  beh : 0 ≤ S.en → H bh = some (.lst ((S.seen.drop S.en.toNat).map V.int)) ∧ l ≠ bh
def spHurt (C : Addr) : Sp := fun vs H Q _ => ∃ (r l bh : Addr) (S : LS), vs = [.ref r] ∧ Rdr C r l bh S H ∧ Q (.int (S.hurt : Int)) H
theorem ok_Reader_hurt {f C : Addr} {fd : FuncData} {k : Nat} (F : Fun K "hurt" "Reader.hurt" m_Reader_hurt f fd) (R : RdC K C) : FnOk P w K mg base CX0 (k + 1) f fd ["self"] (spHurt C) := by
  have sc := sc_Reader_hurt
  refine F.ok sc (fun vs H Q E h => ?_) (fun cdv A outer s H vs Q E hr h => ?_)
  · obtain ⟨r, l, bh, S, rfl, _⟩ := h
    rfl
  · obtain ⟨r, l, bh, S, rfl, ⟨⟨dx, hr_⟩, _⟩, q⟩ := h
    refine ⟨_, (pss_one (ps_ret (pe_fldK K rfl (pv 0)))), ?_⟩
    exact ⟨_, rfl, r, C, dx, _, _, rfl, hr_, R.cls, R.ns, rfl, q⟩
/-! ### what a reader changes -/
/-- all but what stands at r and at b stays, and nothing vanishes -/
structure Mv2 (r b : Addr) (H H' : Hp) : Prop where
  kp : ∀ a o, a ≠ r → a ≠ b → H a = some o → H' a = some o
  al : ∀ a, H' a = none → H a = none
theorem Mv2.refl (r b : Addr) (H : Hp) : Mv2 r b H H := ⟨fun _ _ _ _ h => h, fun _ h => h⟩
theorem Mv2.of {r b : Addr} {H H' : Hp} (s : Same H H') : Mv2 r b H H' := ⟨fun a o _ _ h => s a o h, al_same s⟩
theorem Mv2.trans {r b b' : Addr} {H H1 H2 : Hp} (m : Mv2 r b H H1) (m' : Mv2 r b' H1 H2) (hb : b' = r ∨ b' = b ∨ H b' = none) : Mv2 r b H H2 := by
  refine ⟨fun a o n1 n2 e => m'.kp a o n1 (fun z => ?_) (m.kp a o n1 n2 e), fun a h => m.al a (m'.al a h)⟩
  rcases hb with y | y | y
  · exact n1 (z.trans y)
  · exact n2 (z.trans y)
  · rw [← z, e] at y
    cases y
theorem Mv2.f {r b : Addr} {H H' : Hp} (m : Mv2 r b H H') : MvF [r, b] H H' := ⟨fun a o n h => m.kp a o (fun z => n (z ▸ .head _)) (fun z => n (z ▸ .tail _ (.head _))) h, m.al⟩
def Told (H H' : Hp) (l' bh' : Addr) : Option (List Int) → V → Prop
  | none, v => v = .non
  | some p, v => ∃ pp, v = .ref pp ∧ H pp = none ∧ H' pp = some (.lst (p.map V.int)) ∧ pp ≠ l' ∧ pp ≠ bh'
theorem eqv_tups (ns ms : List Int) : PyData.eqv (.tuple (ns.map PyData.int)) (.tuple (ms.map PyData.int)) = decide (ns = ms) := by
  have h := eqv_ints ns ms
  exact h
theorem shaped_tup (ns : List Int) : SeqAt.shaped (.tuple (ns.map PyData.int)) = true := shaped_ints ns
/-- a reader, whole -/
def RdP (C r l bh : Addr) (S : LS) (H : Hp) : Prop := Rdr C r l bh S H ∧ S.Ok ∧ (S.en < 0 → bh = r)
theorem RdP.loc {C r l bh : Addr} {S : LS} {H H' : Hp} (k : ∀ a ∈ [r, l, bh], ∀ o, H a = some o → H' a = some o) (h : RdP C r l bh S H) : RdP C r l bh S H' := by
  obtain ⟨⟨⟨dx, e1⟩, e2, e3⟩, h⟩ := h
  exact ⟨⟨⟨dx, k r (.head _) _ e1⟩, k l (.tail _ (.head _)) _ e2, fun z => ⟨k bh (.tail _ (.tail _ (.head _))) _ (e3 z).1, (e3 z).2⟩⟩, h⟩
theorem RdP.pl {C r l bh : Addr} {S : LS} {H : Hp} (h : RdP C r l bh S H) : (∃ o, H r = some o ∧ plain o) ∧ (∃ o, H l = some o ∧ plain o) ∧ (∃ o, H bh = some o ∧ plain o) := by
  obtain ⟨⟨⟨dx, e1⟩, e2, e3⟩, h, h2⟩ := h
  refine ⟨⟨_, e1, trivial⟩, ⟨_, e2, trivial⟩, ?_⟩
  by_cases z : S.en < 0
  · rw [h2 z]
    exact ⟨_, e1, trivial⟩
  · exact ⟨_, (e3 (by omega)).1, trivial⟩
theorem RdP.al {C r l bh : Addr} {S : LS} {H : Hp} (h : RdP C r l bh S H) : H r ≠ none ∧ H l ≠ none ∧ H bh ≠ none := by
  obtain ⟨⟨o1, e1, _⟩, ⟨o2, e2, _⟩, ⟨o3, e3, _⟩⟩ := h.pl
  rw [e1, e2, e3]
  exact ⟨(fun z => nomatch z), (fun z => nomatch z), (fun z => nomatch z)⟩
theorem in3 {a r l b : Addr} (h : a ∈ [r, l, b]) : a = r ∨ a = l ∨ a = b := by
  simpa using h
theorem in2 {a r b : Addr} (h : a ∈ [r, b]) : a = r ∨ a = b := by
  simpa using h
theorem ni3 {a r l b : Addr} (h1 : a ≠ r) (h2 : a ≠ l) (h3 : a ≠ b) : a ∉ [r, l, b] := fun h => (in3 h).elim h1 (fun h => h.elim h2 h3)
def tRd (C r l bh : Addr) (S : LS) : Th := ⟨[r, l, bh], RdP C r l bh S, fun H H' k h => h.loc k, fun H h a ha => by
  rcases in3 ha with rfl | rfl | rfl
  · exact h.pl.1
  · exact h.pl.2.1
  · exact h.pl.2.2⟩
/-- rows of ints at these places -/
def RowsAt (H : Hp) : List Addr → List (List Int) → Prop
  | [], [] => True
  | p :: ps, r :: rs => H p = some (.lst (r.map V.int)) ∧ RowsAt H ps rs
  | _, _ => False
theorem RowsAt.dp {H : Hp} : ∀ {ps : List Addr} {rs : List (List Int)}, RowsAt H ps rs → DpAll K H (ps.map V.ref) (rs.map dI)
  | [], [], _ => .nil
  | p :: ps, r :: rs, h => .cons (dp_ints (SqL.of h.1)) (RowsAt.dp h.2)
theorem RowsAt.len {H : Hp} : ∀ {ps : List Addr} {rs : List (List Int)}, RowsAt H ps rs → ps.length = rs.length
  | [], [], _ => rfl
  | p :: ps, r :: rs, h => congrArg (· + 1) (RowsAt.len h.2)
theorem RowsAt.loc {H H' : Hp} : ∀ {ps : List Addr} {rs : List (List Int)}, (∀ a ∈ ps, ∀ o, H a = some o → H' a = some o) → RowsAt H ps rs → RowsAt H' ps rs
  | [], [], _, _ => trivial
  | p :: ps, r :: rs, k, h => ⟨k p (.head _) _ h.1, RowsAt.loc (fun a ha => k a (.tail _ ha)) h.2⟩
theorem RowsAt.pl {H : Hp} : ∀ {ps : List Addr} {rs : List (List Int)}, RowsAt H ps rs → ∀ a ∈ ps, ∃ o, H a = some o ∧ plain o
  | p :: ps, r :: rs, h, a, ha => by
    rcases List.mem_cons.mp ha with rfl | ha
    · exact ⟨_, h.1, trivial⟩
    · exact RowsAt.pl h.2 a ha
theorem RowsAt.al {H : Hp} {ps : List Addr} {rs : List (List Int)} (h : RowsAt H ps rs) (a : Addr) (ha : a ∈ ps) : H a ≠ none := by
  obtain ⟨o, e, _⟩ := RowsAt.pl h a ha
  rw [e]
  exact fun z => nomatch z
theorem RowsAt.snoc {H : Hp} {p : Addr} {r : List Int} (e : H p = some (.lst (r.map V.int))) : ∀ {ps : List Addr} {rs : List (List Int)}, RowsAt H ps rs → RowsAt H (ps ++ [p]) (rs ++ [r])
  | [], [], _ => ⟨e, trivial⟩
  | q :: ps, s :: rs, h => ⟨h.1, RowsAt.snoc e h.2⟩
theorem RowsAt.at {H : Hp} : ∀ {ps : List Addr} {rs : List (List Int)} {i : Nat} {p : Addr}, RowsAt H ps rs → ps[i]? = some p → ∃ r, rs[i]? = some r ∧ H p = some (.lst (r.map V.int))
  | q :: ps, s :: rs, 0, p, h, e => by cases e; exact ⟨s, rfl, h.1⟩
  | q :: ps, s :: rs, i + 1, p, h, e => RowsAt.at (i := i) h.2 e
/-- a list of rows; what it holds -/
def tRowsG (pl : Addr) (xs : List V) (ps : List Addr) (rs : List (List Int)) : Th := ⟨pl :: ps, fun H => H pl = some (.lst xs) ∧ RowsAt H ps rs ∧ pl ∉ ps, fun H H' k h => ⟨k pl (.head _) _ h.1, RowsAt.loc (fun a ha => k a (.tail _ ha)) h.2.1, h.2.2⟩, fun H h a ha => by
  rcases List.mem_cons.mp ha with rfl | ha
  · exact ⟨_, h.1, trivial⟩
  · exact RowsAt.pl h.2.1 a ha⟩
abbrev tRows (pl : Addr) (ps : List Addr) (rs : List (List Int)) : Th := tRowsG pl (ps.map V.ref) ps rs
def dRows (rs : List (List Int)) : PyData := .list (rs.map dI)
theorem dp_rows {H : Hp} {pl : Addr} {ps : List Addr} {rs : List (List Int)} (h1 : H pl = some (.lst (ps.map V.ref))) (h2 : RowsAt H ps rs) : Dp K H (.ref pl) (dRows rs) := .lst (SqL.of h1) (RowsAt.dp h2)
theorem canLay_rows : ∀ rs : List (List Int), PyData.canLayAll0 (rs.map dI) = true
  | [] => rfl
  | r :: rs => by
    show (PyData.canLayAll0 (r.map PyData.int) && PyData.canLayAll0 (rs.map dI)) = true
    rw [canLay_ints r, canLay_rows rs]
    rfl
theorem depth_rows : ∀ rs : List (List Int), PyData.depthAll (rs.map dI) ≤ 1
  | [] => Nat.zero_le _
  | r :: rs => by
    show max (PyData.depthAll (r.map PyData.int) + 1) (PyData.depthAll (rs.map dI)) ≤ 1
    rw [depth_ints r]
    exact Nat.max_le.mpr ⟨Nat.le_refl _, depth_rows rs⟩
theorem shaped_rows (rs : List (List Int)) : SeqAt.shaped (dRows rs) = true := by
  unfold SeqAt.shaped
  rw [Bool.and_eq_true]
  refine ⟨canLay_rows rs, decide_eq_true ?_⟩
  show PyData.depthAll (rs.map dI) + 1 ≤ 64
  have := depth_rows rs
  omega
theorem dn_rows {rs : List (List Int)} (h : rs.length ≤ 100000) (hr : ∀ r ∈ rs, r.length ≤ 100000) (n : Nat) : Dn (n + 3) (dRows rs) := .inr (.inr (.inr (.inr ⟨_, .inl rfl, by rw [List.length_map]; exact h, fun e he => by
  obtain ⟨r, hm, rfl⟩ := List.mem_map.mp he
  exact .inr (.inr (.inr (.inr ⟨_, .inl rfl, by rw [List.length_map]; exact hr r hm, fun e he => by
    obtain ⟨z, _, rfl⟩ := List.mem_map.mp he
    exact .inr (.inl ⟨z, rfl⟩)⟩)))⟩)))
theorem sc_Reader_take_bit : FnScope ["self", "bit"] ["self", "bit"] (defScope m_Reader_take_bit) := ⟨rfl, rfl, rfl, by decide +kernel, rfl, by decide +kernel, by decide +kernel⟩
def spTb (C : Addr) : Sp := fun vs H Q _ => ∃ (r l bh : Addr) (S : LS) (b : Int), vs = [.ref r, .int b] ∧ isB b ∧ Rdr C r l bh S H ∧ S.Ok ∧ (S.en < 0 → bh = r) ∧ S.seen.length < 9000 ∧
  ∀ (H' : Hp) (l' bh' : Addr) (v : V), Mv2 r bh H H' → H l' = none → (bh' = r ∨ bh' = bh ∨ H bh' = none) → ((hstep S b).1.en < 0 → bh' = r) → Rdr C r l' bh' (hstep S b).1 H' → Told H H' l' bh' (hstep S b).2 v → Q v H'
theorem ok_Reader_take_bit {f C a_MARK : Addr} {fd : FuncData} {k : Nat} {tO : Tok} (F : Fun K "take_bit" "Reader.take_bit" m_Reader_take_bit f fd) (n_len : mg "len" = none) (n_tuple : mg "tuple" = none) (g_MARK : mg "MARK" = some (.ref a_MARK)) (h_MARK : ∀ H, SqT K H a_MARK (markL.map V.int)) (g_MOST_OPEN : mg "MOST_OPEN" = some (.int 400 tO)) (R : RdC K C)
    (c_Reader_pass_mark : CalM CX0 P w K mg base k C "pass_mark" ["self"] (spPm C)) : FnOk P w K mg base CX0 (k + 1) f fd ["self", "bit"] (spTb C) := by
  have sc := sc_Reader_take_bit
  refine F.ok sc (fun vs H Q E h => ?_) (fun cdv A outer s H vs Q E hr h => ?_)
  · obtain ⟨r, l, bh, S, b, rfl, _⟩ := h
    rfl
  · obtain ⟨r, l, bh, S, b, rfl, hb, ⟨⟨dx, hr_⟩, hl_, hbh⟩, hok, hown, hlen, q⟩ := h
    have hnl : (S.seen ++ [b]).length = S.seen.length + 1 := by rw [List.length_append]; rfl
    refine ⟨_, (pss_cons (ps_fldK K rfl (pv 0) (pe_op op_cat (pe_slice (sl_listK K rfl) (pe_fldK K rfl (pv 0)) (po_some (pe_op op_sub pe_int (pe_callB (call_lenK K rfl) (by rfl) n_len PySem.boot_len (pa_cons (pe_glob (v := .ref a_MARK) (by rfl) g_MARK rfl) pa_nil)))) po_none) (pe_lst (pa_cons (pv 1) pa_nil))))
 (pss_cons (ps_if (pt_cmpR op_notN (pe_fldK K rfl (pv 0)) pe_non (nomark _))
  (pss_one (ps_expr (pe_bmK K rfl PySem.F.plainAttrs_list PySem.F.slot_list_append PySem.F.type_list_append mt_append (pe_fldK K rfl (pv 0)) (pa_cons (pv 1) pa_nil))))
  pss_nil)
 (pss_cons (ps_if (pt_cmpR (op_eqDK K rfl hr.units) (pe_callTy (call_tupleK K rfl) (by rfl) n_tuple (by decide +kernel) (pa_cons (pe_fldK K rfl (pv 0)) pa_nil)) (pe_glob (v := .ref a_MARK) (by rfl) g_MARK rfl) (nomark _))
  (pss_one (ps_ret (pe_methC0 (pv 0) c_Reader_pass_mark hr)))
  pss_nil)
 (pss_cons (ps_if (PW.pt (pw_and (pt_cmpR op_notN (pe_fldK K rfl (pv 0)) pe_non (nomark _)) (pw_and1 (pt_cmpR op_gt (pe_callB (call_lenK K rfl) (by rfl) n_len PySem.boot_len (pa_cons (pe_fldK K rfl (pv 0)) pa_nil)) (pe_glob (v := .int 400) (by rfl) g_MOST_OPEN ⟨_, rfl⟩) (nomark _)))))
  (pss_cons (ps_fldaugK K rfl (pv 0) pe_int in_add)
 (pss_one (ps_fldK K rfl (pv 0) pe_non)))
  pss_nil)
 (pss_one (ps_ret pe_non)))))), ?_⟩
    refine ⟨_, rfl, r, C, dx, _, _, rfl, hr_, R.cls, R.nl, rfl, a_MARK, _, rfl, .inr (h_MARK _), _, _, rfl, rfl, _, rfl, l, _, rfl, SqL.of hl_, fun p1 n1 => ?_⟩
    have ec : cutV ((lastOf S.seen).map V.int) (some (1 - ((markL.map V.int).length : Int))) none = ((lastOf S.seen).drop ((lastOf S.seen).length - 7)).map V.int := by
      rw [mark_len, show (1 : Int) - ((8 : Nat) : Int) = -((7 : Nat) : Int) by decide, cut_from_b _ 7 (by decide), List.length_map, List.map_drop]
    rw [ec]
    have s1 : Same H (upd H p1 (.lst (((lastOf S.seen).drop ((lastOf S.seen).length - 7)).map V.int))) := same_upd n1
    refine ⟨_, rfl, (by show 1 ≤ sizeLine; decide), fun p2 n2 => ?_⟩
    have n12 : p1 ≠ p2 := ne_of_none upd_same n2
    have s2 := s1.trans (same_upd (o := .lst [.int b]) n2)
    refine ⟨p1, p2, _, _, rfl, rfl, (by rw [upd_ne n12]; exact upd_same), upd_same, ?_, fun p3 n3 => ?_⟩
    · rw [List.length_map, List.length_drop]
      refine sz4 ?_
      show (lastOf S.seen).length - ((lastOf S.seen).length - 7) + 1 ≤ 100000
      omega
    have em : ((lastOf S.seen).drop ((lastOf S.seen).length - 7)).map V.int ++ [V.int b] = (lastOf (S.seen ++ [b])).map V.int := by
      rw [← last_more, List.map_append]
      rfl
    rw [em]
    have s3 := s2.trans (same_upd (o := .lst ((lastOf (S.seen ++ [b])).map V.int)) n3)
    have n03 : H p3 = none := s2.free n3
    have r3 : p3 ≠ r := (ne_of_none hr_ n03).symm
    refine ⟨_, rfl, r, C, dx, _, rfl, s3 _ _ hr_, R.cls, R.nl, (by show 3 < 1000; decide), ?_⟩
    have ep : ∀ bv : V, putF "last" (.ref p3) (rdF l bv S.hurt) = rdF p3 bv S.hurt := fun _ => rfl
    rw [ep]
    have b3 : 0 ≤ S.en → bh ≠ p3 := fun z => ne_of_none (hbh z).1 n03
    have br : 0 ≤ S.en → bh ≠ r := fun z y => by
      rw [← y, (hbh z).1] at hr_
      cases hr_
    have hm1 : ∀ a o, a ≠ r → H a = some o → upd (upd (upd (upd H p1 (.lst (((lastOf S.seen).drop ((lastOf S.seen).length - 7)).map V.int))) p2 (.lst [.int b])) p3 (.lst ((lastOf (S.seen ++ [b])).map V.int))) r (.ins C dx (rdF p3 (if S.en < 0 then .non else .ref bh) S.hurt)) a = some o := fun a o n e => by
      rw [upd_ne n]
      exact s3 _ _ e
    have er1 : upd (upd (upd (upd H p1 (.lst (((lastOf S.seen).drop ((lastOf S.seen).length - 7)).map V.int))) p2 (.lst [.int b])) p3 (.lst ((lastOf (S.seen ++ [b])).map V.int))) r (.ins C dx (rdF p3 (if S.en < 0 then .non else .ref bh) S.hurt)) r = some (.ins C dx (rdF p3 (if S.en < 0 then .non else .ref bh) S.hurt)) := upd_same
    have el1 : upd (upd (upd (upd H p1 (.lst (((lastOf S.seen).drop ((lastOf S.seen).length - 7)).map V.int))) p2 (.lst [.int b])) p3 (.lst ((lastOf (S.seen ++ [b])).map V.int))) r (.ins C dx (rdF p3 (if S.en < 0 then .non else .ref bh) S.hurt)) p3 = some (.lst ((lastOf (S.seen ++ [b])).map V.int)) := by rw [upd_ne r3, upd_same]
    have al1 : ∀ a, upd (upd (upd (upd H p1 (.lst (((lastOf S.seen).drop ((lastOf S.seen).length - 7)).map V.int))) p2 (.lst [.int b])) p3 (.lst ((lastOf (S.seen ++ [b])).map V.int))) r (.ins C dx (rdF p3 (if S.en < 0 then .non else .ref bh) S.hurt)) a = none → H a = none := al_upd (al_same s3)
    generalize upd (upd (upd (upd H p1 (.lst (((lastOf S.seen).drop ((lastOf S.seen).length - 7)).map V.int))) p2 (.lst [.int b])) p3 (.lst ((lastOf (S.seen ++ [b])).map V.int))) r (.ins C dx (rdF p3 (if S.en < 0 then .non else .ref bh) S.hurt)) = H1 at hm1 er1 el1 al1 ⊢
    dsimp only
    refine if_by (J := fun σ1 H2 => σ1 = [some (.ref r), some (.int b)] ∧ Mv2 r bh H H2 ∧ H2 r = some (.ins C dx (rdF p3 (if S.en < 0 then .non else .ref bh) S.hurt)) ∧ H2 p3 = some (.lst ((lastOf (S.seen ++ [b])).map V.int)) ∧ (0 ≤ S.en → H2 bh = some (.lst (((S.seen ++ [b]).drop S.en.toNat).map V.int)))) ?_ (fun rest => ?_)
    · rintro σ1 H2 ⟨rfl, mv2, er2, el2, eb2⟩
      -- the mark?
      refine ⟨_, rfl, r, C, dx, _, _, rfl, er2, R.cls, R.nl, rfl, p3, _, rfl, .inl ⟨SqL.of el2, fun p4 n4 => ?_⟩⟩
      have s4 : Same H2 (upd H2 p4 (.tup ((lastOf (S.seen ++ [b])).map V.int))) := same_upd n4
      refine ⟨.tuple ((lastOf (S.seen ++ [b])).map PyData.int), .tuple (markL.map PyData.int), .tup (.inl (.inl upd_same)) (dpa_ints _), .tup (h_MARK _) (dpa_ints _), shaped_tup _, shaped_tup _, ?_⟩
      rw [eqv_tups]
      have er4 := s4 _ _ er2
      have el4 := s4 _ _ el2
      have eb4 : 0 ≤ S.en → _ := fun z => s4 _ _ (eb2 z)
      have mv4 : Mv2 r bh H (upd H2 p4 (.tup ((lastOf (S.seen ++ [b])).map V.int))) := ⟨fun a o z1 z2 e => s4 _ _ (mv2.kp a o z1 z2 e), al_upd mv2.al⟩
      generalize upd H2 p4 (.tup ((lastOf (S.seen ++ [b])).map V.int)) = H4 at er4 el4 eb4 mv4 ⊢
      have ehs : hstep S b = hstep S b := rfl
      unfold hstep at q
      refine ⟨_, rfl, ite2 (fun e => ?_) (fun e => ?_)⟩
      · have hm : lastOf (S.seen ++ [b]) = markL := of_decide_eq_true e
        rw [if_pos hm] at q
        refine ⟨_, rfl, r, dx, _, rfl, er4, rfl, r, dx, p3, S.hurt, (if S.en < 0 then none else some (bh, (S.seen ++ [b]).drop S.en.toNat)), rfl, ?_, ?_, ?_⟩
        · rw [er4]
          by_cases z : S.en < 0
          · rw [if_pos z, if_pos z]
            rfl
          · rw [if_neg z, if_neg z]
            rfl
        · intro x hx
          by_cases z : S.en < 0
          · rw [if_pos z] at hx
            cases hx
          · rw [if_neg z] at hx
            cases hx
            exact ⟨eb4 (by omega), bits_drop (bits_app hok.1 (bits_one hb)) _, by rw [List.length_drop]; omega⟩
        · intro H5 nb v n' mv5 nnb enb er5 hout
          have mv : Mv2 r bh H H5 := ⟨fun a o z1 z2 e => mv5 a o z1 (mv4.kp a o z1 z2 e), fun a h => mv4.al a (al_mv mv5 er5 a h)⟩
          have nbr : nb ≠ r := (ne_of_none er4 nnb).symm
          have el5 : H5 p3 = some (.lst ((lastOf (S.seen ++ [b])).map V.int)) := mv5 _ _ r3 el4
          have p3nb : p3 ≠ nb := ne_of_none el4 nnb
          have hnb : nb = r ∨ nb = bh ∨ H nb = none := by
            exact .inr (.inr (mv4.al _ nnb))
          have edr : (S.seen ++ [b]).drop ((S.seen ++ [b]).length : Int).toNat = [] := by
            rw [Int.toNat_natCast]
            exact List.drop_length
          have rd : ∀ h : Nat, n' = h → Rdr C r p3 nb ⟨S.seen ++ [b], (S.seen ++ [b]).length, h⟩ H5 := fun h eh => by
            refine ⟨⟨dx, ?_⟩, el5, fun _ => ⟨?_, p3nb⟩⟩
            · rw [if_neg (by show ¬ ((S.seen ++ [b]).length : Int) < 0; omega), ← eh]
              exact er5
            · show H5 nb = some (.lst (((S.seen ++ [b]).drop ((S.seen ++ [b]).length : Int).toNat).map V.int))
              rw [edr]
              exact enb
          have en0 : ∀ h : Nat, (⟨S.seen ++ [b], (S.seen ++ [b]).length, h⟩ : LS).en < 0 → nb = r := fun h z => absurd z (by show ¬ ((S.seen ++ [b]).length : Int) < 0; omega)
          rcases hout with ⟨h8, rfl, rfl⟩ | ⟨x, hx, h8, hj, rfl, rfl⟩ | ⟨x, pl, pp, hx, h8, hj, rfl, rfl, npp, epp, pnb⟩
          · have hc : S.en < 0 ∨ ((S.seen ++ [b]).length : Int) - 8 ≤ S.en := by
              by_cases z : S.en < 0
              · exact .inl z
              · have := h8 (bh, (S.seen ++ [b]).drop S.en.toNat) (if_neg z)
                rw [show ((bh, (S.seen ++ [b]).drop S.en.toNat) : Addr × List Int).2 = (S.seen ++ [b]).drop S.en.toNat from rfl, List.length_drop] at this
                omega
            rw [if_pos hc] at q
            exact q H5 p3 nb .non mv n03 hnb (en0 _) (rd _ rfl) rfl
          · have hz : ¬ S.en < 0 := fun z => by
              rw [if_pos z] at hx
              cases hx
            rw [if_neg hz] at hx
            cases hx
            have h8 : 8 < ((S.seen ++ [b]).drop S.en.toNat).length := h8
            have hj : judge (((S.seen ++ [b]).drop S.en.toNat).take (((S.seen ++ [b]).drop S.en.toNat).length - 8)) = none := hj
            rw [List.length_drop] at h8 hj
            rw [if_neg (fun c => c.elim hz (fun c => by omega)), show (S.seen ++ [b]).length - 8 - S.en.toNat = (S.seen ++ [b]).length - S.en.toNat - 8 by omega, hj] at q
            exact q H5 p3 nb .non mv n03 hnb (en0 _) (rd _ rfl) rfl
          · have hz : ¬ S.en < 0 := fun z => by
              rw [if_pos z] at hx
              cases hx
            rw [if_neg hz] at hx
            cases hx
            have h8 : 8 < ((S.seen ++ [b]).drop S.en.toNat).length := h8
            have hj : judge (((S.seen ++ [b]).drop S.en.toNat).take (((S.seen ++ [b]).drop S.en.toNat).length - 8)) = some pl := hj
            rw [List.length_drop] at h8 hj
            rw [if_neg (fun c => c.elim hz (fun c => by omega)), show (S.seen ++ [b]).length - 8 - S.en.toNat = (S.seen ++ [b]).length - S.en.toNat - 8 by omega, hj] at q
            exact q H5 p3 nb (.ref pp) mv n03 hnb (en0 _) (rd _ rfl) ⟨pp, rfl, mv4.al _ npp, epp, (ne_of_none el4 npp).symm, pnb⟩
      · have hm : ¬ lastOf (S.seen ++ [b]) = markL := fun y => e (decide_eq_true y)
        rw [if_neg hm] at q
        unfold tNext
        dsimp only
        refine if_by (J := fun σ1 H5 => ∃ bh', σ1 = [some (.ref r), some (.int b)] ∧ Mv2 r bh H H5 ∧ (bh' = r ∨ bh' = bh) ∧ ((if 0 ≤ S.en ∧ 400 < ((S.seen ++ [b]).length : Int) - S.en then (⟨S.seen ++ [b], -1, S.hurt + 1⟩ : LS) else ⟨S.seen ++ [b], S.en, S.hurt⟩).en < 0 → bh' = r) ∧ Rdr C r p3 bh' (if 0 ≤ S.en ∧ 400 < ((S.seen ++ [b]).length : Int) - S.en then ⟨S.seen ++ [b], -1, S.hurt + 1⟩ else ⟨S.seen ++ [b], S.en, S.hurt⟩) H5) ?_ (fun rest => ?_)
        · rintro σ1 H5 ⟨bh', rfl, mv5, hb5, ho5, rd5⟩
          have hb5' : bh' = r ∨ bh' = bh ∨ H bh' = none := hb5.elim .inl (fun z => .inr (.inl z))
          by_cases c : 0 ≤ S.en ∧ 400 < ((S.seen ++ [b]).length : Int) - S.en
          · rw [if_pos c] at q rd5 ho5
            exact q H5 p3 bh' .non mv5 n03 hb5' ho5 rd5 rfl
          · rw [if_neg c] at q rd5 ho5
            exact q H5 p3 bh' .non mv5 n03 hb5' ho5 rd5 rfl
        · by_cases z : S.en < 0
          · rw [if_pos z] at er4
            refine ⟨_, rfl, r, C, dx, _, _, rfl, er4, R.cls, R.nb, rfl, rfl, _, rfl, iteF ?_⟩
            refine iteF (rest _ _ ⟨bh, rfl, mv4, .inr rfl, ?_, ?_⟩)
            · rw [if_neg (fun y => by omega)]
              exact fun _ => hown z
            · rw [if_neg (fun y => by omega)]
              refine ⟨⟨dx, ?_⟩, el4, fun y => absurd y (by show ¬ 0 ≤ S.en; omega)⟩
              rw [if_pos z]
              exact er4
          · rw [if_neg z] at er4
            have z0 : 0 ≤ S.en := by omega
            refine ⟨_, rfl, r, C, dx, _, _, rfl, er4, R.cls, R.nb, rfl, rfl, _, rfl, iteT ?_⟩
            refine ⟨_, rfl, r, C, dx, _, _, rfl, er4, R.cls, R.nb, rfl, bh, _, rfl, .inl (SqL.of (eb4 z0)), _, _, rfl, rfl, _, rfl, ite2 (fun e1 => ?_) (fun e1 => ?_)⟩
            · have h4 : 400 < ((S.seen ++ [b]).length : Int) - S.en := by
                have := of_decide_eq_true e1
                rw [List.length_map, List.length_drop] at this
                omega
              rw [if_pos ⟨z0, h4⟩] at rest
              refine ⟨_, rfl, r, C, dx, _, _, rfl, er4, R.cls, R.ns, rfl, _, _, rfl, rfl, dx, _, er4, (by show 3 < 1000; decide), ?_⟩
              have eput2 : putF "spoilt" (.int ((S.hurt : Int) + 1)) (rdF p3 (.ref bh) S.hurt) = rdF p3 (.ref bh) (S.hurt + 1) := rfl
              rw [eput2]
              refine ⟨_, rfl, r, C, dx, _, rfl, upd_same, R.cls, R.nb, (by show 3 < 1000; decide), ?_⟩
              have eput3 : putF "behind" .non (rdF p3 (.ref bh) (S.hurt + 1)) = rdF p3 .non (S.hurt + 1) := rfl
              rw [eput3, upd_upd]
              refine rest _ _ ⟨r, rfl, ⟨fun a o n1 n2 e => by rw [upd_ne n1]; exact mv4.kp a o n1 n2 e, al_upd mv4.al⟩, .inl rfl, fun _ => rfl, ⟨dx, ?_⟩, ?_, fun y => absurd y (by show ¬ (0 : Int) ≤ -1; decide)⟩
              · rw [upd_same]
                rfl
              · rw [upd_ne r3]
                exact el4
            · have h4 : ¬ 400 < ((S.seen ++ [b]).length : Int) - S.en := fun y => e1 (decide_eq_true (by
                rw [List.length_map, List.length_drop]
                omega))
              rw [if_neg (fun c => h4 c.2)] at rest
              refine rest _ _ ⟨bh, rfl, mv4, .inr rfl, fun y => absurd y (by show ¬ S.en < 0; omega), ⟨dx, ?_⟩, el4, fun _ => ⟨eb4 z0, (b3 z0).symm⟩⟩
              rw [if_neg z]
              exact er4
    · by_cases z : S.en < 0
      · rw [if_pos z] at er1
        refine ⟨_, rfl, r, C, dx, _, _, rfl, er1, R.cls, R.nb, rfl, rfl, _, rfl, iteF ?_⟩
        exact rest _ _ ⟨rfl, ⟨fun a o n1 _ e => hm1 a o n1 e, al1⟩, (by rw [if_pos z]; exact er1), el1, fun y => absurd y (by omega)⟩
      · rw [if_neg z] at er1
        have z0 : 0 ≤ S.en := by omega
        have eb1 := hm1 _ _ (br z0) (hbh z0).1
        refine ⟨_, rfl, r, C, dx, _, _, rfl, er1, R.cls, R.nb, rfl, rfl, _, rfl, iteT ?_⟩
        refine ⟨_, rfl, r, C, dx, _, _, rfl, er1, R.cls, R.nb, rfl, .inl ⟨rfl, _, SqL.of eb1⟩, _, rfl, bh, _, _, rfl, rfl, eb1, ?_, ?_⟩
        · rw [List.length_map, List.length_drop]
          exact sz4l (by omega)
        have em2 : (S.seen.drop S.en.toNat).map V.int ++ [V.int b] = ((S.seen ++ [b]).drop S.en.toNat).map V.int := by
          have hle : S.en.toNat ≤ S.seen.length := by
            rcases hok.2 with y | ⟨_, y⟩ <;> omega
          rw [List.drop_append_of_le_length hle, List.map_append]
          rfl
        rw [em2]
        refine rest _ _ ⟨rfl, ⟨fun a o n1 n2 e => by rw [upd_ne n2]; exact hm1 a o n1 e, al_upd al1⟩, by rw [upd_ne (br z0).symm, if_neg z]; exact er1, by rw [upd_ne (b3 z0).symm]; exact el1, fun _ => upd_same⟩
theorem sc_Reader_take : FnScope ["self", "bits", "payloads", "bit", "payload"] ["self", "bits"] (defScope m_Reader_take) := ⟨rfl, rfl, rfl, by decide +kernel, rfl, by decide +kernel, by decide +kernel⟩
/-- what a reader tells, and how it stands then -/
def spTake (C cB : Addr) : Sp := fun vs H Q E => ∃ (r l bh : Addr) (S : LS) (a : Addr) (ns : List Int), vs = [.ref r, .ref a] ∧ RdP C r l bh S H ∧ H a = some (.lst (ns.map V.int)) ∧ a ≠ bh ∧ S.seen.length + ns.length ≤ 9000 ∧
  (Bits ns → ∀ (H' : Hp) (l' bh' pl : Addr) (ps : List Addr), MvF [r, bh] H H' → (∀ p ∈ [r, l', bh'], p ∈ [r, l, bh] ∨ H p = none) → RdP C r l' bh' (hall S ns).1 H' → H' pl = some (.lst (ps.map V.ref)) → RowsAt H' ps (hall S ns).2 → (∀ p ∈ pl :: ps, H p = none ∧ p ∉ [r, l', bh']) → pl ∉ ps → Q (.ref pl) H') ∧
  (∀ (i : Nat) (z : Int), ns[i]? = some z → ¬ isB z → Bits (ns.take i) → ∀ H' d, Same H H' → H d = none → H' d = some (.xd [(("at" : Str), .int (i : Int)), (("word" : Str), .str "BadBit")]) → E (.ref cB) (some d) H')
theorem ok_Reader_take {f C cB : Addr} {fd : FuncData} {k : Nat} (F : Fun K "take" "Reader.take" m_Reader_take f fd) (R : RdC K C) (c_check_bits : CalX P w K mg base k "check_bits" ["bits"] (spCheckX K cB))
    (c_Reader_take_bit : CalM CX0 P w K mg base k C "take_bit" ["self", "bit"] (spTb C)) : FnOk P w K mg base (L2.CX P w) (k + 1) f fd ["self", "bits"] (spTake C cB) := by
  have sc := sc_Reader_take
  refine F.okX sc (fun vs H Q E h => ?_) (fun cdv A outer s H vs Q E hr h => ?_)
  · obtain ⟨r, l, bh, S, a, ns, rfl, _⟩ := h
    rfl
  · obtain ⟨r, l, bh, S, a, ns, rfl, hrd, ha, nab, hlen, q, qe⟩ := h
    refine ⟨_, (pss_cons (ps_expr (pe_callP c_check_bits hr (passes_call (takes_of rfl rfl rfl rfl) (fun _ _ _ _ h => h)) (by rfl) (pa_cons (pv 1) pa_nil)))
 (pss_cons (ps_set (i := 2) sc.nd rfl (.inl rfl) (pe_lst pa_nil))
 (pss_cons (ps_for (passes_of rfl) rfl (pi_listK K rfl (pv 1)) (pg_name (i := 3) sc.nd rfl (.inl rfl))
  (pss_cons (ps_set (i := 4) sc.nd rfl (.inl rfl) (pe_methC (pv 0) c_Reader_take_bit hr (pa_cons (pv 3) pa_nil)))
 (pss_one (ps_if (pt_cmpR op_notN (pv 4) pe_non (nomark _))
  (pss_one (ps_expr (pe_bmK K rfl PySem.F.plainAttrs_list PySem.F.slot_list_append PySem.F.type_list_append mt_append (pv 2) (pa_cons (pv 4) pa_nil))))
  pss_nil))))
 (pss_one (ps_ret (pv 2)))))), ?_⟩
    refine ⟨_, rfl, a, ns, rfl, SqL.of ha, by omega, fun hB H1 s1 => ?_, qe⟩
    refine ⟨Nat.zero_le _, fun pl npl => ?_⟩
    have npl0 : H pl = none := s1.free npl
    have s2 := s1.trans (same_upd (o := .lst []) npl)
    have nar : a ≠ r := fun z => by
      obtain ⟨⟨⟨dx, e1⟩, _⟩, _⟩ := hrd
      rw [z, e1] at ha
      cases ha
    refine ⟨_, rfl, a, rfl, ⟨_, SqL.of (s2 _ _ ha)⟩, for_list (K := K) (a := a) (xs := ns.map V.int) (fun i σ H' => ∃ (l' bh' : Addr) (ps : List Addr) (y3 y4 : Option V), σ = [some (.ref r), some (.ref a), some (.ref pl), y3, y4] ∧ MvF [r, bh] H H' ∧ (l' = l ∨ H l' = none) ∧ (bh' = r ∨ bh' = bh ∨ H bh' = none) ∧ RdP C r l' bh' (hall S (ns.take i)).1 H' ∧
        H' pl = some (.lst (ps.map V.ref)) ∧ RowsAt H' ps (hall S (ns.take i)).2 ∧ (∀ p ∈ pl :: ps, H p = none ∧ p ∉ [r, l', bh']) ∧ pl ∉ ps)
      ⟨l, bh, [], none, none, rfl, .of s2, .inl rfl, .inr (.inl rfl), hrd.loc (fun p _ o e => s2 _ _ e), upd_same, trivial, (fun p hp => ?_), List.not_mem_nil⟩ (fun i σ H' _ h => ?_) ?_ ?_⟩
    · rw [List.mem_singleton.mp hp]
      refine ⟨npl0, fun z => ?_⟩
      rcases in3 z with z | z | z
      · exact hrd.al.1 (z ▸ npl0)
      · exact hrd.al.2.1 (z ▸ npl0)
      · exact hrd.al.2.2 (z ▸ npl0)
    · obtain ⟨l', bh', ps, y3, y4, _, mv, _⟩ := h
      exact SqL.of (mv.kp _ _ (fun z => (in2 z).elim nar nab) ha)
    · rintro i x σ H2 hx ⟨l', bh', ps, y3, y4, rfl, mv, hl', hb', hrd', epl, hrows, hnew, hnin⟩
      obtain ⟨z, hz, rfl⟩ := getI hx
      have hil : i < ns.length := (List.getElem?_eq_some_iff.mp hz).1
      have hmore := hall_more (S := S) hz
      have hseen := hall_seen S ns i (by omega)
      have hsl : ((hall S (ns.take i)).1.seen).length < 9000 := by
        rw [hseen, List.length_append, List.length_take]
        omega
      obtain ⟨hR, hok, hown⟩ := id hrd'
      obtain ⟨dx, hins⟩ := hR.ins
      refine ⟨_, rfl, r, dx, _, rfl, hins, rfl, _, rfl, r, l', bh', (hall S (ns.take i)).1, z, rfl, hB z (List.mem_of_getElem? hz), hR, hok, hown, hsl, fun H3 l2 bh2 v m2 nl2 hb2 ho2 rd2 ht => ?_⟩
      have ok2 := hstep_ok hok (hB z (List.mem_of_getElem? hz))
      have plr : ∀ p ∈ pl :: ps, p ≠ r ∧ p ≠ l' ∧ p ≠ bh' := fun p hp => ⟨fun y => (hnew p hp).2 (y ▸ .head _), fun y => (hnew p hp).2 (y ▸ .tail _ (.head _)), fun y => (hnew p hp).2 (y ▸ .tail _ (.tail _ (.head _)))⟩
      have pal : ∀ p ∈ pl :: ps, H2 p ≠ none := fun p hp => by
        rcases List.mem_cons.mp hp with rfl | hp
        · rw [epl]
          exact fun z => nomatch z
        · exact RowsAt.al hrows p hp
      have pn2 : ∀ p ∈ pl :: ps, p ∉ [r, l2, bh2] := fun p hp => ni3 (plr p hp).1 (fun y => pal p hp (y ▸ nl2)) (fun y => by
        rcases hb2 with w | w | w
        · exact (plr p hp).1 (y.trans w)
        · exact (plr p hp).2.2 (y.trans w)
        · exact pal p hp (y ▸ w))
      have mv3 : MvF [r, bh] H H3 := mv.trans2 m2.f (fun p hp => by
        rcases in2 hp with rfl | rfl
        · exact .inl (.head _)
        · rcases hb' with rfl | rfl | y
          · exact .inl (.head _)
          · exact .inl (.tail _ (.head _))
          · exact .inr y)
      have hl2 : l2 = l ∨ H l2 = none := .inr (mv.al _ nl2)
      have hb2' : bh2 = r ∨ bh2 = bh ∨ H bh2 = none := by
        rcases hb2 with w | w | w
        · exact .inl w
        · rw [w]
          exact hb'
        · exact .inr (.inr (mv.al _ w))
      have epl3 : H3 pl = some (.lst (ps.map V.ref)) := m2.kp _ _ (plr pl (.head _)).1 (plr pl (.head _)).2.2 epl
      have hrows3 : RowsAt H3 ps (hall S (ns.take i)).2 := RowsAt.loc (fun p hp o e => m2.kp _ _ (plr p (.tail _ hp)).1 (plr p (.tail _ hp)).2.2 e) hrows
      refine ⟨_, rfl, rfl, _, rfl, ?_⟩
      cases eo : (hstep (hall S (ns.take i)).1 z).2 with
      | none =>
        rw [eo] at ht
        have ht : v = .non := ht
        subst ht
        refine iteF ⟨l2, bh2, ps, _, _, rfl, mv3, hl2, hb2', ?_, epl3, ?_, fun p hp => ⟨(hnew p hp).1, pn2 p hp⟩, hnin⟩
        · rw [hmore]
          exact ⟨rd2, ok2, ho2⟩
        · rw [hmore, eo]
          show RowsAt H3 ps ((hall S (ns.take i)).2 ++ [])
          rw [List.append_nil]
          exact hrows3
      | some pr =>
        rw [eo] at ht
        obtain ⟨pp, rfl, npp, epp, ppl, ppb⟩ := ht
        have ppr : pp ≠ r := fun y => hrd'.al.1 (y ▸ npp)
        have pppl : pl ≠ pp := ne_of_none epl npp
        refine iteT ⟨_, rfl, .inl ⟨rfl, _, SqL.of epl3⟩, _, rfl, pl, _, _, rfl, rfl, epl3, ?_, ?_⟩
        · rw [List.length_map, RowsAt.len hrows]
          have := hall_len S ns i (by omega)
          exact sz4l (by omega)
        have em : ps.map V.ref ++ [V.ref pp] = (ps ++ [pp]).map V.ref := by rw [List.map_append]; rfl
        rw [em]
        have pl2 := plr pl (.head _)
        have pln := pn2 pl (.head _)
        have kp : ∀ p o, p ≠ pl → H3 p = some o → upd H3 pl (.lst ((ps ++ [pp]).map V.ref)) p = some o := fun p o n e => by
          rw [upd_ne n]
          exact e
        refine ⟨l2, bh2, ps ++ [pp], _, _, rfl, ⟨fun p o n e => ?_, al_upd mv3.al⟩, hl2, hb2', ?_, upd_same, ?_, fun p hp => ?_, ?_⟩
        · exact kp p o (ne_of_none e npl0) (mv3.kp p o n e)
        · rw [hmore]
          have w : RdP C r l2 bh2 (hstep (hall S (ns.take i)).1 z).1 H3 := ⟨rd2, ok2, ho2⟩
          exact w.loc (fun p hp o e => kp p o (fun y => pln (y ▸ hp)) e)
        · rw [hmore, eo]
          show RowsAt _ (ps ++ [pp]) ((hall S (ns.take i)).2 ++ [pr])
          refine RowsAt.snoc (kp _ _ pppl.symm epp) (RowsAt.loc (fun p hp o e => kp p o (fun y => hnin (y ▸ hp)) e) hrows3)
        · rcases List.mem_cons.mp hp with rfl | hp
          · exact ⟨npl0, pln⟩
          rcases List.mem_append.mp hp with hp | hp
          · exact ⟨(hnew p (.tail _ hp)).1, pn2 p (.tail _ hp)⟩
          · rw [List.mem_singleton.mp hp]
            exact ⟨mv.al _ npp, ni3 ppr ppl ppb⟩
        · intro hp
          rcases List.mem_append.mp hp with hp | hp
          · exact hnin hp
          · exact pppl (List.mem_singleton.mp hp)
    · rintro σ H2 ⟨l', bh', ps, y3, y4, rfl, mv, hl', hb', hrd', epl, hrows, hnew, hnin⟩
      rw [List.length_map, List.take_length] at hrd' hrows
      refine ⟨_, rfl, q hB H2 l' bh' pl ps mv (fun p hp => ?_) hrd' epl hrows hnew hnin⟩
      rcases in3 hp with rfl | rfl | rfl
      · exact .inl (.head _)
      · rcases hl' with rfl | y
        · exact .inl (.tail _ (.head _))
        · exact .inr y
      · rcases hb' with rfl | rfl | y
        · exact .inl (.head _)
        · exact .inl (.tail _ (.tail _ (.head _)))
        · exact .inr y
/-! ### the law's own state of a stream -/
theorem dc_inj {L M : List Int} (hl : Bits L) (hm : Bits M) (h : dc L = dc M) : L = M := by
  induction L generalizing M with
  | nil =>
    cases M with
    | nil => rfl
    | cons m r => cases h
  | cons b t ih =>
    cases M with
    | nil => cases h
    | cons m r =>
      have h : (if b = 1 then 49 else 48) :: dc t = (if m = 1 then 49 else 48) :: dc r := h
      have h := List.cons.inj h
      have hb := bits_cons hl
      have hc := bits_cons hm
      rw [ih hb.2 hc.2 h.2]
      have e := h.1
      rcases hb.1 with rfl | rfl <;> rcases hc.1 with rfl | rfl
      · rfl
      · exact absurd e (by decide)
      · exact absurd e (by decide)
      · rfl
theorem dc_len (L : List Int) : (dc L).length = L.length := by
  unfold dc
  rw [List.length_map]
theorem ends_dig {L M : List Int} (hl : Bits L) (hm : Bits M) : Txt.endswith (dig L) (dig M) = decide (L.drop (L.length - M.length) = M) := by
  show (decide (0 + (dig M).length ≤ (dig L).length) && Builtin.Str.subAt (dig L) (dig M) ((dig L).length - (dig M).length)) = _
  rw [dig_len, dig_len, PySem.StrLaws.subAt_eq, dig_len]
  have e1 : (dig L).cps.toList = dc L := rfl
  have e2 : (dig M).cps.toList = dc M := rfl
  rw [e1, e2]
  have e3 : (dc L).drop (L.length - M.length) = dc (L.drop (L.length - M.length)) := by
    unfold dc
    rw [List.map_drop]
  rw [e3]
  by_cases h : M.length ≤ L.length
  · rw [decide_eq_true (by omega), Bool.true_and, List.take_of_length_le (by rw [dc_len, List.length_drop]; omega), Bool.beq_eq_decide_eq]
    exact decide_eq_decide.mpr ⟨fun z => dc_inj (bits_drop hl _) hm z, fun z => by rw [z]⟩
  · rw [decide_eq_false (by omega), Bool.false_and]
    refine (decide_eq_false (fun z => ?_)).symm
    have := congrArg List.length z
    rw [List.length_drop] at this
    omega
theorem mark_bits : Bits markL := fun z hz => by
  simp only [markL, List.mem_cons, List.not_mem_nil, or_false] at hz
  omega
theorem ends_mark {L : List Int} (hl : Bits L) : Txt.endswith (dig L) "01111110" = decide (lastOf L = markL) := ends_dig (M := markL) hl mark_bits
theorem cut_dig (L : List Int) (lo hi : Nat) (h1 : lo ≤ L.length) (h2 : hi ≤ L.length) : cutS (dig L) (some (lo : Int)) (some (hi : Int)) = dig ((L.drop lo).take (hi - lo)) := by
  unfold cutS
  rw [HT.sIx_nat, HT.sIx_nat, dig_len, Nat.min_eq_left h1, Nat.min_eq_left h2]
  have e1 : (dig L).cps.toList = dc L := rfl
  rw [e1]
  have e3 : ((dc L).drop lo).take (hi - lo) = dc ((L.drop lo).take (hi - lo)) := by
    unfold dc
    rw [List.map_take, List.map_drop]
  rw [e3]
  rfl
theorem dc_at {L : List Int} {i c : Nat} (hc : (dig L).cps[i]? = some c) : ∃ z, L[i]? = some z ∧ c = if z = 1 then 49 else 48 := by
  have hc : (dc L).toArray[i]? = some c := hc
  rw [List.getElem?_toArray] at hc
  unfold dc at hc
  rw [List.getElem?_map] at hc
  cases e : L[i]? with
  | none => rw [e] at hc; cases hc
  | some z => rw [e] at hc; exact ⟨z, rfl, (Option.some.inj hc).symm⟩
abbrev stT (x : Str) (e h : Int) : List (Key × V) := [(.inr "seen", .str x), (.inr "end", .int e), (.inr "hurt", .int h)]
section
variable {x y : Str} {e h v : Int} {H : Hp} {d : Addr}
theorem m_es : ¬ (Str.ofString "end") = Str.ofString "seen" := by decide
theorem m_hs : ¬ (Str.ofString "hurt") = Str.ofString "seen" := by decide
theorem m_se : ¬ (Str.ofString "seen") = Str.ofString "end" := by decide
theorem m_he : ¬ (Str.ofString "hurt") = Str.ofString "end" := by decide
theorem m_sh : ¬ (Str.ofString "seen") = Str.ofString "hurt" := by decide
theorem m_eh : ¬ (Str.ofString "end") = Str.ofString "hurt" := by decide
theorem n_es : ¬ (Sum.inr "end" : Key) = .inr "seen" := by decide
theorem n_hs : ¬ (Sum.inr "hurt" : Key) = .inr "seen" := by decide
theorem n_se : ¬ (Sum.inr "seen" : Key) = .inr "end" := by decide
theorem n_he : ¬ (Sum.inr "hurt" : Key) = .inr "end" := by decide
theorem n_sh : ¬ (Sum.inr "seen" : Key) = .inr "hurt" := by decide
theorem n_eh : ¬ (Sum.inr "end" : Key) = .inr "hurt" := by decide
theorem get_seen (hd : H d = some (.dK (stT x e h))) : DGet H d (.str "seen") (some (.str x)) := by
  have g := DGet.k (k := .inr "seen") hd
  rwa [valV_pos rfl] at g
theorem get_end (hd : H d = some (.dK (stT x e h))) : DGet H d (.str "end") (some (.int e)) := by
  have g := DGet.k (k := .inr "end") hd
  rwa [valV_neg n_se, valV_pos rfl] at g
theorem get_hurt (hd : H d = some (.dK (stT x e h))) : DGet H d (.str "hurt") (some (.int h)) := by
  have g := DGet.k (k := .inr "hurt") hd
  rwa [valV_neg n_sh, valV_neg n_eh, valV_pos rfl] at g
theorem put_seen (hd : H d = some (.dK (stT x e h))) : DPut H d (.str "seen") (.str y) (upd H d (.dK (stT y e h))) := by
  have g := DPut.k (k := .inr "seen") (v := .str y) hd (by show 3 < sizeLine; decide)
  have ep : putK (stT x e h) (.inr "seen") (.str y) = stT y e h := by
    unfold putK
    rw [valV_any, valV_pos rfl]
    simp [m_es, m_hs]
  rwa [ep] at g
theorem put_end (hd : H d = some (.dK (stT x e h))) : DPut H d (.str "end") (.int v) (upd H d (.dK (stT x v h))) := by
  have g := DPut.k (k := .inr "end") (v := .int v) hd (by show 3 < sizeLine; decide)
  have ep : putK (stT x e h) (.inr "end") (.int v) = stT x v h := by
    unfold putK
    rw [valV_any, valV_neg n_se, valV_pos rfl]
    simp [m_se, m_he]
  rwa [ep] at g
theorem put_hurt (hd : H d = some (.dK (stT x e h))) : DPut H d (.str "hurt") (.int v) (upd H d (.dK (stT x e v))) := by
  have g := DPut.k (k := .inr "hurt") (v := .int v) hd (by show 3 < sizeLine; decide)
  have ep : putK (stT x e h) (.inr "hurt") (.int v) = stT x e v := by
    unfold putK
    rw [valV_any, valV_neg n_sh, valV_neg n_eh, valV_pos rfl]
    simp [m_sh, m_eh]
  rwa [ep] at g
end
abbrev stD (S : LS) : List (Key × V) := stT (dig S.seen) S.en (S.hurt : Int)
theorem sc__law_written : FnScope ["_law_figure", "_law_wide", "_law_found", "_law_k"] ["_law_figure", "_law_wide"] (defScope s__law_written) := ⟨rfl, rfl, rfl, by decide +kernel, rfl, by decide +kernel, by decide +kernel⟩
/-- a number in bits -/
def spWritten : Sp := fun vs H Q _ => ∃ (n : Int) (m : Nat), vs = [.int n, .int (m : Int)] ∧ m ≤ 1000 ∧ ∀ (H' : Hp) (p : Addr), Same H H' → H p = none → H' p = some (.lst ((wr m n).map V.int)) → Q (.ref p) H'
theorem ok__law_written {f : Addr} {fd : FuncData} {k : Nat} (F : Fun K "_law_written" "_law_written" s__law_written f fd) (n_range : mg "range" = none) : FnOk P w K mg base CX0 (k + 1) f fd ["_law_figure", "_law_wide"] spWritten := by
  have sc := sc__law_written
  refine F.ok sc (fun vs H Q E h => ?_) (fun cdv A outer s H vs Q E hr h => ?_)
  · obtain ⟨n, m, rfl, _⟩ := h
    rfl
  · obtain ⟨n, m, rfl, hm, q⟩ := h
    refine ⟨_, (pss_cons (ps_set (i := 2) sc.nd rfl (.inl rfl) (pe_lst pa_nil))
 (pss_cons (ps_for PassesOwn.never rfl (pi_range1 (by rfl) n_range (pa_cons (pv 1) pa_nil)) (pg_name (i := 3) sc.nd rfl (.inl rfl))
  (pss_cons (ps_expr (pe_bmK K rfl PySem.F.plainAttrs_list PySem.F.slot_list_insert PySem.F.type_list_insert mt_insert (pv 2) (pa_cons pe_int (pa_cons (pe_op op_mod (pv 0) pe_int) pa_nil))))
 (pss_one (ps_set (i := 0) sc.nd rfl (.inl rfl) (pe_op op_fdiv (pv 0) pe_int)))))
 (pss_one (ps_ret (pv 2))))), ?_⟩
    refine ⟨Nat.zero_le _, fun o no => ?_⟩
    refine ⟨_, rfl, _, rfl, by omega, by omega, for_range (lo := 0) (n := ((m : Int)).toNat) (fun i σ H' => ∃ y3, σ = [some (.int (n / 2 ^ i)), some (.int (m : Int)), some (.ref o), y3] ∧ Same H H' ∧ H' o = some (.lst ((wr i n).map V.int))) ?_ ?_ ?_⟩
    · refine ⟨none, ?_, same_upd no, upd_same⟩
      rw [Int.pow_zero, Int.ediv_one]
      rfl
    · rintro i σ H' hi ⟨y3, rfl, sm, eo⟩
      rw [Int.toNat_natCast] at hi
      refine ⟨_, rfl, .inl ⟨rfl, _, SqL.of eo⟩, _, rfl, _, _, rfl, rfl, (by show (0 : Int) < 2; decide), o, _, 0, _, rfl, rfl, eo, ?_, by decide, by decide, ?_⟩
      · rw [List.length_map, wr_len]
        exact small1000 (by omega)
      · refine ⟨_, rfl, _, _, rfl, rfl, ⟨by decide, by decide⟩, some (.int (0 + (i : Int))), ?_, same_mut sm no, upd_same⟩
        show _ = _
        rw [← half n i]
        rfl
    · rintro σ H' ⟨y3, rfl, sm, eo⟩
      rw [Int.toNat_natCast] at eo
      exact ⟨_, rfl, q H' o sm no eo⟩
def spSeal (K : PySem.W.Frag) : Sp := fun vs H Q _ => ∃ (a : Addr) (ns : List Int), vs = [.ref a] ∧ SqL K H a (ns.map V.int) ∧ Bits ns ∧ ∀ (H' : Hp) (p : Addr), Same H H' → H p = none → H' p = some (.lst ((sealL ns).map V.int)) → Q (.ref p) H'
theorem sc__law_seal : FnScope ["_law_signs", "_law_cells", "_law_sign", "_law_top"] ["_law_signs"] (defScope s__law_seal) := ⟨rfl, rfl, rfl, by decide +kernel, rfl, by decide +kernel, by decide +kernel⟩
theorem ok__law_seal {f : Addr} {fd : FuncData} {k : Nat} (F : Fun K "_law_seal" "_law_seal" s__law_seal f fd) (c__law_written : Cal P w K mg base k "_law_written" ["_law_figure", "_law_wide"] spWritten) :
    FnOk P w K mg base CX0 (k + 1) f fd ["_law_signs"] (spSeal K) := by
  have sc := sc__law_seal
  refine F.ok sc (fun vs H Q E h => ?_) (fun cdv A outer s H vs Q E hr h => ?_)
  · obtain ⟨a, ns, rfl, _⟩ := h
    rfl
  · obtain ⟨a, ns, rfl, hS, hB, q⟩ := h
    refine ⟨_, (pss_cons (ps_set (i := 1) sc.nd rfl (.inl rfl) pe_int)
 (pss_cons (ps_for PassesOwn.never rfl (pi_listK K rfl (pv 0)) (pg_name (i := 2) sc.nd rfl (.inl rfl))
  (pss_cons (ps_set (i := 3) sc.nd rfl (.inl rfl) (pe_op op_fdiv (pv 1) pe_int))
 (pss_cons (ps_set (i := 1) sc.nd rfl (.inl rfl) (pe_op op_mod (pe_op op_mul (pv 1) pe_int) pe_int))
 (pss_one (ps_if (pt_cmpR op_ne (pv 3) (pv 2) (nomark _))
  (pss_one (ps_set (i := 1) sc.nd rfl (.inl rfl) (pe_op op_xor (pv 1) pe_int)))
  pss_nil)))))
 (pss_one (ps_ret (pe_callC c__law_written hr (by rfl) (pa_cons (pv 1) (pa_cons pe_int pa_nil))))))), ?_⟩
    refine ⟨_, rfl, a, rfl, ⟨_, hS⟩, for_list (K := K) (a := a) (xs := ns.map V.int) (fun i σ H' => ∃ (y y' : Option V), σ = [some (.ref a), some (.int (regs (ns.take i) : Nat)), y, y'] ∧ H' = H)
      ⟨none, none, rfl, rfl⟩ (fun i σ H' _ h => ?_) ?_ ?_⟩
    · obtain ⟨y, y', _, rfl⟩ := h
      exact hS
    · rintro i y σ H' hi ⟨y2, y3, rfl, rfl⟩
      obtain ⟨z, hz, rfl⟩ := getI hi
      have hreg := regs_lt (ns.take i)
      have hst := regs_more hz
      generalize regs (ns.take i) = c at hreg hst ⊢
      refine ⟨_, rfl, _, _, rfl, rfl, ⟨by decide, by decide⟩, ?_⟩
      refine ⟨_, rfl, _, _, rfl, rfl, .inr ⟨by decide, by decide⟩, _, _, rfl, rfl, (by show (0 : Int) < 65536; decide), ?_⟩
      have e1 : (c : Int) / 32768 = ((c / 32768 : Nat) : Int) := by omega
      have e2 : (c : Int) * 2 % 65536 = ((c * 2 % 65536 : Nat) : Int) := by omega
      refine ⟨_, rfl, _, rfl, rfl, _, rfl, ite2 (fun e => ?_) (fun e => ?_)⟩
      · have hne : ¬ ((c / 32768 : Nat) : Int) = z := fun h => by
          have e : (!decide (V.int ((c : Int) / 32768) = V.int z)) = true := e
          rw [e1, h] at e
          simp at e
        refine ⟨_, rfl, _, _, rfl, rfl, some (.int z), some (.int ((c : Int) / 32768)), ?_, rfl⟩
        show [some (V.ref a), some (V.int (Builtin.bitXor ((c : Int) * 2 % 65536) 4129)), _, _] = _
        have ex : Builtin.bitXor ((c : Int) * 2 % 65536) 4129 = (((c * 2 % 65536) ^^^ 4129 : Nat) : Int) := by
          rw [e2, Bits.bitXor_pp (by omega) (by decide)]
          rfl
        rw [ex, hst, show stepR c z = (c * 2 % 65536) ^^^ 4129 from if_neg hne]
      · have heq : ((c / 32768 : Nat) : Int) = z := by
          have e : ¬ (!decide (V.int ((c : Int) / 32768) = V.int z)) = true := e
          rw [e1] at e
          simp at e
          exact e
        refine ⟨some (.int z), some (.int ((c : Int) / 32768)), ?_, rfl⟩
        show [some (V.ref a), some (V.int ((c : Int) * 2 % 65536)), _, _] = _
        rw [e2, hst, show stepR c z = c * 2 % 65536 from if_pos heq]
    · rintro σ H' ⟨y, y', rfl, rfl⟩
      rw [List.length_map, List.take_length]
      refine ⟨_, rfl, _, 16, rfl, by decide, fun H1 p s1 n1 e1 => q H1 p s1 n1 e1⟩
def frameL (ns : List Int) : List Int := markL ++ stuffL (ns ++ sealL ns) ++ markL
theorem frame_bits {ns : List Int} (h : Bits ns) : Bits (ns ++ sealL ns) := bits_app h (seal_bits ns)
theorem sc__law_bag : FnScope ["_law_script"] ["_law_script"] (defScope s__law_bag) := ⟨rfl, rfl, rfl, by decide +kernel, rfl, by decide +kernel, by decide +kernel⟩
theorem ok__law_bag {f : Addr} {fd : FuncData} {k : Nat} (F : Fun K "_law_bag" "_law_bag" s__law_bag f fd) (n_len : mg "len" = none) (n_list : mg "list" = none) : FnOk P w K mg base CX0 (k + 1) f fd ["_law_script"] (spBag K) := by
  have sc := sc__law_bag
  refine F.ok sc (fun vs H Q E h => ?_) (fun cdv A outer s H vs Q E hr h => ?_)
  · obtain ⟨a, ns, rfl, _⟩ := h
    rfl
  · obtain ⟨a, ns, rfl, hS, q⟩ := h
    refine ⟨_, (pss_one (ps_ret (pe_lst (pa_cons (pe_callTy (call_listK K rfl) (by rfl) n_list (by decide +kernel) (pa_cons (pe_slice (sl_listK K rfl) (pv 0) po_none (po_some pe_int)) pa_nil)) (pa_cons pe_int (pa_cons pe_int (pa_cons (pe_op op_add pe_int (pe_callB (call_lenK K rfl) (by rfl) n_len PySem.boot_len (pa_cons (pe_slice (sl_listK K rfl) (pv 0) po_none (po_some pe_int)) pa_nil))) (pa_cons pe_int pa_nil)))))))), ?_⟩
    refine ⟨_, rfl, 63, rfl, a, _, rfl, hS, fun p1 n1 => ?_⟩
    refine ⟨p1, _, rfl, .inl (SqL.of upd_same), fun p2 n2 => ?_⟩
    have s1 : Same H (upd H p1 (.lst (cutV (ns.map V.int) none (some 63)))) := same_upd n1
    have s2 := s1.trans (same_upd (o := .lst (cutV (ns.map V.int) none (some 63))) n2)
    refine ⟨_, rfl, 63, rfl, a, _, rfl, s2.seq hS, fun p3 n3 => ?_⟩
    have s3 := s2.trans (same_upd (o := .lst (cutV (ns.map V.int) none (some 63))) n3)
    refine ⟨p3, _, rfl, .inl (SqL.of upd_same), _, _, rfl, rfl, (by show 5 ≤ sizeLine; decide), fun p4 n4 => ?_⟩
    have s4 := s3.trans (same_upd (o := .lst (bagL p2 0 0 (977 + ((cutV (ns.map V.int) none (some 63)).length : Int)) 0)) n4)
    have e0 : cutV (ns.map V.int) none (some 63) = (ns.take 63).map V.int := by
      unfold cutV
      rw [HT.sIx_none, show HT.sIx (ns.map V.int).length (ns.map V.int).length (some 63) = min 63 (ns.map V.int).length from HT.sIx_nat _ _ 63]
      simp only [List.drop_zero, Nat.sub_zero, List.length_map, List.map_take]
      by_cases h : ns.length ≤ 63
      · rw [Nat.min_eq_right h, List.take_of_length_le (by simp), List.take_of_length_le (by simpa using h)]
      · rw [Nat.min_eq_left (by omega)]
    have n42 : p4 ≠ p2 := fun z => by
      rw [z, upd_ne (ne_of_none upd_same n3), upd_same] at n4
      cases n4
    refine q _ (p4, p2) s4 (s3.free n4) ⟨ns.take 63, 0, 0, _, 0, upd_same, ?_, n42.symm, by omega, ?_, ?_⟩
    · rw [upd_ne n42.symm, upd_ne (ne_of_none upd_same n3), upd_same, e0]
    · omega
    · rw [e0, List.length_map, List.length_take]
      omega
theorem sc__law_pick : FnScope ["_law_bag_here", "_law_top", "_law_cell", "_law_digit"] ["_law_bag_here", "_law_top"] (defScope s__law_pick) := ⟨rfl, rfl, rfl, by decide +kernel, rfl, by decide +kernel, by decide +kernel⟩
theorem ok__law_pick {f : Addr} {fd : FuncData} {k : Nat} (F : Fun K "_law_pick" "_law_pick" s__law_pick f fd) (n_len : mg "len" = none) : FnOk P w K mg base CX0 (k + 1) f fd ["_law_bag_here", "_law_top"] spPick := by
  have sc := sc__law_pick
  refine F.ok sc (fun vs H Q E h => ?_) (fun cdv A outer s H vs Q E hr h => ?_)
  · obtain ⟨b, top, rfl, _⟩ := h
    rfl
  · obtain ⟨⟨b, sa⟩, top, rfl, ⟨ns, i, r, x, c, hb, hs, hne, hi, hx0, hx1⟩, ht0, ht1, q⟩ := h
    refine ⟨_, (pss_cons (ps_if (PW.pt (pw_and (pt_cmpR op_lt (pe_ix (ix_listK K rfl) (pv 0) pe_int (fun _ _ => rfl)) (pv 1) (nomark _)) (pw_and1 (pt_cmpR op_lt (pe_ix (ix_listK K rfl) (pv 0) pe_int (fun _ _ => rfl)) (pe_callB (call_lenK K rfl) (by rfl) n_len PySem.boot_len (pa_cons (pe_ix (ix_listK K rfl) (pv 0) pe_int (fun _ _ => rfl)) pa_nil)) (nomark _)))))
  (pss_cons (ps_set (i := 2) sc.nd rfl (.inl rfl) (pe_ix (ix_listK K rfl) (pe_ix (ix_listK K rfl) (pv 0) pe_int (fun _ _ => rfl)) (pe_ix (ix_listK K rfl) (pv 0) pe_int (fun _ _ => rfl)) (fun _ _ => rfl)))
 (pss_cons (ps_asg (pe_op op_add (pe_ix (ix_listK K rfl) (pv 0) pe_int (fun _ _ => rfl)) pe_int) (pg_sub (pv 0) pe_int set_list))
 (pss_cons (ps_asg (pe_op op_mod (pe_op op_add (pe_op op_add (pe_op op_mul (pe_ix (ix_listK K rfl) (pv 0) pe_int (fun _ _ => rfl)) pe_int) (pv 2)) (pe_ix (ix_listK K rfl) (pv 0) pe_int (fun _ _ => rfl))) pe_int) (pg_sub (pv 0) pe_int set_list))
 (pss_one (ps_asg (pe_ifExp (pt_cmpR op_ge (pv 2) (pe_op op_pow pe_int pe_int) (nomark _)) (pv 2) pe_int) (pg_sub (pv 0) pe_int set_list))))))
  pss_nil)
 (pss_cons (ps_if (pt_cmpR op_ge (pe_ix (ix_listK K rfl) (pv 0) pe_int (fun _ _ => rfl)) (pv 1) (nomark _))
  (pss_cons (ps_set (i := 3) sc.nd rfl (.inl rfl) (pe_op op_mod (pe_ix (ix_listK K rfl) (pv 0) pe_int (fun _ _ => rfl)) (pv 1)))
 (pss_cons (ps_asg (pe_op op_fdiv (pe_ix (ix_listK K rfl) (pv 0) pe_int (fun _ _ => rfl)) (pv 1)) (pg_sub (pv 0) pe_int set_list))
 (pss_one (ps_ret (pv 3)))))
  pss_nil)
 (pss_cons (ps_asg (pe_op op_add (pe_ix (ix_listK K rfl) (pv 0) pe_int (fun _ _ => rfl)) pe_int) (pg_sub (pv 0) pe_int set_list))
 (pss_cons (ps_asg (pe_op op_mod (pe_op op_add (pe_op op_add (pe_op op_add (pe_op op_pow (pe_ix (ix_listK K rfl) (pv 0) pe_int (fun _ _ => rfl)) pe_int) (pe_op op_mul pe_int (pe_ix (ix_listK K rfl) (pv 0) pe_int (fun _ _ => rfl)))) (pe_op op_fdiv (pe_ix (ix_listK K rfl) (pv 0) pe_int (fun _ _ => rfl)) pe_int)) pe_int) pe_int) (pg_sub (pv 0) pe_int set_list))
 (pss_one (ps_ret (pe_op op_mod (pe_op op_fdiv (pe_ix (ix_listK K rfl) (pv 0) pe_int (fun _ _ => rfl)) pe_int) (pv 1)))))))), ?_⟩
    refine seq_by (J := fun σ1 H1 => ∃ (y2 : Option V) (i r x c : Int), σ1 = [some (.ref b), some (.int top), y2, none] ∧ H1 b = some (.lst (bagL sa i r x c)) ∧ H1 sa = some (.lst (ns.map V.int)) ∧ Mv b H H1 ∧ 0 ≤ i ∧ 0 ≤ x ∧ x < 2147483648) ?_ (fun rest => ?_)
    · rintro σ1 H1 ⟨y2, i, r, x, c, rfl, hb, hs, mv, hi, hx0, hx1⟩
      refine ⟨_, rfl, b, _, 2, .int r, rfl, rfl, SqL.of hb, rfl, _, rfl, r, top, rfl, rfl, _, rfl, ite2 (fun e => ?_) (fun e => ?_)⟩
      · refine ⟨_, rfl, b, _, 2, .int r, rfl, rfl, SqL.of hb, rfl, _, rfl, r, top, rfl, rfl, ht0, ?_⟩
        refine ⟨_, rfl, b, _, 2, .int r, rfl, rfl, SqL.of hb, rfl, _, rfl, r, top, rfl, rfl, ⟨ht0, ht1⟩, ?_⟩
        refine ⟨_, rfl, b, _, 2, 2, rfl, rfl, hb, rfl, ?_⟩
        refine ⟨_, rfl, ?_⟩
        refine q _ _ mv.upd ⟨ns, i, _, x, c, upd_same, ?_, hne, hi, hx0, hx1⟩ (Int.emod_nonneg _ (by omega)) (Int.emod_lt_of_pos _ ht0)
        rw [upd_ne hne]
        exact hs
      · refine ⟨_, rfl, b, _, 4, .int c, rfl, rfl, SqL.of hb, rfl, c, 1, rfl, rfl, _, rfl, b, _, 4, 4, rfl, rfl, hb, rfl, ?_⟩
        have hb2 : upd H1 b (.lst (bagL sa i r x (c + 1))) b = some (.lst (bagL sa i r x (c + 1))) := upd_same
        refine ⟨_, rfl, b, _, 3, .int x, rfl, rfl, SqL.of hb2, rfl, x, 3, rfl, rfl, ⟨by decide, by decide, by omega⟩, ?_⟩
        refine ⟨_, rfl, b, _, 4, .int (c + 1), rfl, rfl, SqL.of hb2, rfl, 40503, c + 1, rfl, rfl, .inl ⟨by decide, by decide⟩, _, _, rfl, rfl, ?_⟩
        refine ⟨_, rfl, b, _, 3, .int x, rfl, rfl, SqL.of hb2, rfl, x, 65537, rfl, rfl, ⟨by decide, by decide⟩, _, _, rfl, rfl, _, _, rfl, rfl, _, _, rfl, rfl, (by show (0 : Int) < 2147483629; decide), ?_⟩
        refine ⟨_, rfl, b, _, 3, 3, rfl, rfl, hb2, rfl, ?_⟩
        rw [upd_upd]
        obtain ⟨z, hz⟩ : ∃ z, (x ^ Int.toNat 3 + 40503 * (c + 1) + x / 65537 + 11) % 2147483629 = z := ⟨_, rfl⟩
        have ez : (bagL sa i r x (c + 1)).set 3 ((fun i j => V.int (i % j)) (x ^ Int.toNat 3 + 40503 * (c + 1) + x / 65537 + 11) 2147483629) = bagL sa i r z (c + 1) := by rw [← hz]; rfl
        rw [ez]
        have z0 : 0 ≤ z := by rw [← hz]; exact Int.emod_nonneg _ (by decide)
        have z1 : z < 2147483648 := by
          have : z < 2147483629 := by rw [← hz]; exact Int.emod_lt_of_pos _ (by decide)
          omega
        have hb3 : upd H1 b (.lst (bagL sa i r z (c + 1))) b = some (.lst (bagL sa i r z (c + 1))) := upd_same
        refine ⟨_, rfl, b, _, 3, .int z, rfl, rfl, SqL.of hb3, rfl, z, 16, rfl, rfl, ⟨by decide, by decide⟩, _, rfl, _, top, rfl, rfl, ht0, ?_⟩
        refine q _ _ mv.upd ⟨ns, i, r, z, c + 1, upd_same, ?_, hne, hi, z0, z1⟩ (Int.emod_nonneg _ (by omega)) (Int.emod_lt_of_pos _ ht0)
        rw [upd_ne hne]
        exact hs
    · refine ⟨_, rfl, b, _, 2, .int r, rfl, rfl, SqL.of hb, rfl, _, rfl, r, top, rfl, rfl, _, rfl, ite2 (fun e => ?_) (fun e => ?_)⟩
      · refine ⟨_, rfl, b, _, 1, .int i, rfl, rfl, SqL.of hb, rfl, _, rfl, b, _, 0, .ref sa, rfl, rfl, SqL.of hb, rfl, sa, _, rfl, .inl (SqL.of hs), i, _, rfl, rfl, _, rfl, ite2 (fun e2 => ?_) (fun e2 => ?_)⟩
        · have hlt : i < (ns.length : Int) := by
            have := of_decide_eq_true e2
            rw [List.length_map] at this
            exact this
          obtain ⟨z, hz⟩ : ∃ z, ns[i.toNat]? = some z := ⟨_, List.getElem?_eq_getElem (by omega)⟩
          have hat : atI (ns.map V.int) i = some (.int z) := by
            have := atI_nat (xs := ns.map V.int) (j := i.toNat) (v := .int z) (by rw [List.getElem?_map, hz]; rfl)
            rwa [Int.toNat_of_nonneg hi] at this
          refine ⟨_, rfl, b, _, 0, .ref sa, rfl, rfl, SqL.of hb, rfl, _, rfl, b, _, 1, .int i, rfl, rfl, SqL.of hb, rfl, sa, _, i, _, rfl, rfl, SqL.of hs, hat, ?_⟩
          refine ⟨_, rfl, b, _, 1, .int i, rfl, rfl, SqL.of hb, rfl, i, 1, rfl, rfl, _, rfl, b, _, 1, 1, rfl, rfl, hb, rfl, ?_⟩
          have hb2 : upd H b (.lst (bagL sa (i + 1) r x c)) b = some (.lst (bagL sa (i + 1) r x c)) := upd_same
          refine ⟨_, rfl, b, _, 3, .int x, rfl, rfl, SqL.of hb2, rfl, x, 48271, rfl, rfl, .inr ⟨by decide, by decide⟩, _, rfl, _, z, rfl, rfl, ?_⟩
          refine ⟨_, rfl, b, _, 1, .int (i + 1), rfl, rfl, SqL.of hb2, rfl, _, _, rfl, rfl, _, _, rfl, rfl, (by show (0 : Int) < 2147483629; decide), ?_⟩
          refine ⟨_, rfl, b, _, 3, 3, rfl, rfl, hb2, rfl, ?_⟩
          rw [upd_upd]
          obtain ⟨y, hy⟩ : ∃ y, (x * 48271 + z + (i + 1)) % 2147483629 = y := ⟨_, rfl⟩
          have ey : (bagL sa (i + 1) r x c).set 3 ((fun i j => V.int (i % j)) (x * 48271 + z + (i + 1)) 2147483629) = bagL sa (i + 1) r y c := by rw [← hy]; rfl
          rw [ey]
          have y0 : 0 ≤ y := by rw [← hy]; exact Int.emod_nonneg _ (by decide)
          have y1 : y < 2147483648 := by
            have : y < 2147483629 := by rw [← hy]; exact Int.emod_lt_of_pos _ (by decide)
            omega
          have hb3 : upd H b (.lst (bagL sa (i + 1) r y c)) b = some (.lst (bagL sa (i + 1) r y c)) := upd_same
          have hne2 : ∀ o : HO, upd H b o sa = some (.lst (ns.map V.int)) := fun o => by
            rw [upd_ne hne]
            exact hs
          refine ⟨_, rfl, 10, 18, rfl, rfl, ⟨by decide, by decide, by decide⟩, z, _, rfl, rfl, _, rfl, ite2 (fun e3 => ?_) (fun e3 => ?_)⟩
          · refine ⟨_, rfl, _, rfl, b, _, 2, 2, rfl, rfl, hb3, rfl, ?_⟩
            rw [upd_upd]
            exact rest _ _ ⟨some (.int z), i + 1, z, y, c, rfl, upd_same, hne2 _, (Mv.refl _ _).upd, by omega, y0, y1⟩
          · refine ⟨_, rfl, b, _, 2, 2, rfl, rfl, hb3, rfl, ?_⟩
            rw [upd_upd]
            exact rest _ _ ⟨some (.int z), i + 1, 0, y, c, rfl, upd_same, hne2 _, (Mv.refl _ _).upd, by omega, y0, y1⟩
        · exact rest _ _ ⟨none, i, r, x, c, rfl, hb, hs, Mv.refl _ _, hi, hx0, hx1⟩
      · exact rest _ _ ⟨none, i, r, x, c, rfl, hb, hs, Mv.refl _ _, hi, hx0, hx1⟩
theorem sc__law_same : FnScope ["_law_found", "_law_due", "_law_spot"] ["_law_found", "_law_due"] (defScope s__law_same) := ⟨rfl, rfl, rfl, by decide +kernel, rfl, by decide +kernel, by decide +kernel⟩
theorem ok__law_same {f : Addr} {fd : FuncData} (F : Fun K "_law_same" "_law_same" s__law_same f fd) (gS : mg "_law_same" = some (.ref f)) (bS : Binds K fd ["_law_found", "_law_due"] []) (n_len : mg "len" = none) (n_all : mg "all" = none) (n_bool : mg "bool" = none) (n_int : mg "int" = none)
    (n_isinstance : mg "isinstance" = none) (n_list : mg "list" = none) (n_range : mg "range" = none) (n_str : mg "str" = none) (n_tuple : mg "tuple" = none) : ∀ n : Nat, FnOk P w K mg base CX0 n f fd ["_law_found", "_law_due"] (spSame K n)
  | 0 => ⟨fun vs H Q E h => by obtain ⟨x, y, d, _, _, _, h, _⟩ := h; exact h.elim, fun A outer s H args us vs Q E hr e0 bt r h => by obtain ⟨x, y, d, _, _, _, h, _⟩ := h; exact h.elim⟩
  | n + 1 => by
    have c__law_same : Cal P w K mg base n "_law_same" ["_law_found", "_law_due"] (spSame K n) := ⟨f, fd, ok__law_same F gS bS n_len n_all n_bool n_int n_isinstance n_list n_range n_str n_tuple n, gS, F.kp, bS⟩
    have sc := sc__law_same
    refine F.ok sc (fun vs H Q E h => ?_) (fun cdv A outer s H vs Q E hr h => ?_)
    · obtain ⟨x, y, d, rfl, _⟩ := h
      rfl
    · obtain ⟨x, y, d, rfl, dx, dy, dn, sd, q⟩ := h
      have tx := ty_dp dx
      have ty := ty_dp dy
      refine ⟨_, (pss_cons (ps_if (pt_cmpR op_isN (pv 1) pe_non (nomark _))
  (pss_one (ps_ret (pe_cmpR op_isN (pv 0) pe_non (nomark _))))
  pss_nil)
 (pss_cons (ps_if (PW.pt (pw_or (pt_val (pe_callB (call_isiK1 K rfl) (by rfl) n_isinstance (by decide +kernel) (pa_cons (pv 1) (pa_cons (pe_bltn (v := .ty "bool") (by rfl) n_bool (by decide +kernel) rfl) pa_nil)))) (pw_or1 (pt_val (pe_callB (call_isiK1 K rfl) (by rfl) n_isinstance (by decide +kernel) (pa_cons (pv 0) (pa_cons (pe_bltn (v := .ty "bool") (by rfl) n_bool (by decide +kernel) rfl) pa_nil)))))))
  (pss_one (ps_ret (pe_and (pe_callB (call_isiK1 K rfl) (by rfl) n_isinstance (by decide +kernel) (pa_cons (pv 1) (pa_cons (pe_bltn (v := .ty "bool") (by rfl) n_bool (by decide +kernel) rfl) pa_nil))) (pe_and (pe_callB (call_isiK1 K rfl) (by rfl) n_isinstance (by decide +kernel) (pa_cons (pv 0) (pa_cons (pe_bltn (v := .ty "bool") (by rfl) n_bool (by decide +kernel) rfl) pa_nil))) (pe_one (pe_cmpR (op_eqDK K rfl hr.units) (pv 0) (pv 1) (nomark _)))))))
  pss_nil)
 (pss_cons (ps_if (pt_val (pe_callB (call_isiTK K rfl) (by rfl) n_isinstance (by decide +kernel) (pa_cons (pv 1) (pa_cons (pe_tup (pa_cons (pe_bltn (v := .ty "int") (by rfl) n_int (by decide +kernel) rfl) (pa_cons (pe_bltn (v := .ty "str") (by rfl) n_str (by decide +kernel) rfl) pa_nil))) pa_nil))))
  (pss_one (ps_ret (pe_and (pe_callB (call_isiTK K rfl) (by rfl) n_isinstance (by decide +kernel) (pa_cons (pv 0) (pa_cons (pe_tup (pa_cons (pe_bltn (v := .ty "int") (by rfl) n_int (by decide +kernel) rfl) (pa_cons (pe_bltn (v := .ty "str") (by rfl) n_str (by decide +kernel) rfl) pa_nil))) pa_nil))) (pe_and (pe_cmpR op_eq (pe_callB (call_isiK1 K rfl) (by rfl) n_isinstance (by decide +kernel) (pa_cons (pv 0) (pa_cons (pe_bltn (v := .ty "int") (by rfl) n_int (by decide +kernel) rfl) pa_nil))) (pe_callB (call_isiK1 K rfl) (by rfl) n_isinstance (by decide +kernel) (pa_cons (pv 1) (pa_cons (pe_bltn (v := .ty "int") (by rfl) n_int (by decide +kernel) rfl) pa_nil))) (nomark _)) (pe_one (pe_cmpR (op_eqDK K rfl hr.units) (pv 0) (pv 1) (nomark _)))))))
  pss_nil)
 (pss_cons (ps_if (PW.pt (pw_or (pt_cmpR op_ne (pe_callB (call_isiK1 K rfl) (by rfl) n_isinstance (by decide +kernel) (pa_cons (pv 1) (pa_cons (pe_bltn (v := .ty "list") (by rfl) n_list (by decide +kernel) rfl) pa_nil))) (pe_callB (call_isiK1 K rfl) (by rfl) n_isinstance (by decide +kernel) (pa_cons (pv 0) (pa_cons (pe_bltn (v := .ty "list") (by rfl) n_list (by decide +kernel) rfl) pa_nil))) (nomark _)) (pw_or1 (pt_cmpR op_ne (pe_callB (call_isiK1 K rfl) (by rfl) n_isinstance (by decide +kernel) (pa_cons (pv 1) (pa_cons (pe_bltn (v := .ty "tuple") (by rfl) n_tuple (by decide +kernel) rfl) pa_nil))) (pe_callB (call_isiK1 K rfl) (by rfl) n_isinstance (by decide +kernel) (pa_cons (pv 0) (pa_cons (pe_bltn (v := .ty "tuple") (by rfl) n_tuple (by decide +kernel) rfl) pa_nil))) (nomark _)))))
  (pss_one (ps_ret pe_bl))
  pss_nil)
 (pss_cons (ps_if (PW.pt (pw_or (pt_not (pt_val (pe_callB (call_isiTK K rfl) (by rfl) n_isinstance (by decide +kernel) (pa_cons (pv 0) (pa_cons (pe_tup (pa_cons (pe_bltn (v := .ty "list") (by rfl) n_list (by decide +kernel) rfl) (pa_cons (pe_bltn (v := .ty "tuple") (by rfl) n_tuple (by decide +kernel) rfl) pa_nil))) pa_nil))))) (pw_or1 (pt_cmpR op_ne (pe_callB (call_lenK K rfl) (by rfl) n_len PySem.boot_len (pa_cons (pv 0) pa_nil)) (pe_callB (call_lenK K rfl) (by rfl) n_len PySem.boot_len (pa_cons (pv 1) pa_nil)) (nomark _)))))
  (pss_one (ps_ret pe_bl))
  pss_nil)
 (pss_one (ps_ret (pe_callB (cr_allK K rfl rfl) (by rfl) n_all (by decide +kernel) (pa_cons (pe_lc (own := [("_law_spot", 2)]) (g := gName 2) (by rfl) sc.nd (pi_range1 (by rfl) n_range (pa_cons (pe_callB (call_lenK K rfl) (by rfl) n_len PySem.boot_len (pa_cons (pv 1) pa_nil)) pa_nil)) (blkOk_by (own := [("_law_spot", 2)]) (N := ["_law_found", "_law_due", "_law_spot"]) (sc := defScope s__law_same) (by decide +kernel)) (fun _ _ _ _ _ => pg_name (i := 2) sc.nd rfl (Or.inl rfl)) (fun _ _ _ _ _ => pts_nil) (fun _ _ _ _ _ => (pe_callC c__law_same hr (by rfl) (pa_cons (pe_ix (ix_seqK K rfl) (pv 0) (pv 2) (fun _ _ => rfl)) (pa_cons (pe_ix (ix_seqK K rfl) (pv 1) (pv 2) (fun _ _ => rfl)) pa_nil))))) pa_nil))))))))), ?_⟩
      have er : PyData.eqv d d = true := SeqAt.eqv_refl d (SeqAt.canLay_of_shaped sd)
      rcases dn with ⟨b, rfl⟩ | ⟨i, rfl⟩ | ⟨z, rfl⟩ | rfl | ⟨ds, hd, hlen, hn⟩
      · have tx : TyX K H x (.type "bool") := tx
        have ty : TyX K H y (.type "bool") := ty
        have kb : PySem.W.kitOne K (.type "bool") (.type "bool") = some true := kit_ty (by decide +kernel)
        have dx' := dx
        have dy' := dy
        cases dx
        cases dy
        refine ⟨_, rfl, rfl, _, rfl, iteF ?_⟩
        refine ⟨_, rfl, _, _, _, _, true, rfl, .ty "bool", ty, kb, _, rfl, iteT ?_⟩
        refine iteT ?_
        refine ⟨_, rfl, _, _, _, _, true, rfl, .ty "bool", ty, kb, true, rfl, iteT ?_⟩
        refine ⟨_, rfl, _, _, _, _, true, rfl, .ty "bool", tx, kb, true, rfl, iteT ?_⟩
        refine ⟨_, rfl, _, rfl, .bool b, .bool b, dx', dy', sd, sd, ?_⟩
        rw [er]
        exact q _ (Same.refl _)
      · have tx : TyX K H x (.type "int") := tx
        have ty : TyX K H y (.type "int") := ty
        have kb : PySem.W.kitOne K (.type "int") (.type "bool") = some false := kit_ty (by decide +kernel)
        have ki : PySem.W.kitOne K (.type "int") (.type "int") = some true := kit_ty (by decide +kernel)
        have dx' := dx
        have dy' := dy
        cases dx
        cases dy
        refine ⟨_, rfl, rfl, _, rfl, iteF ?_⟩
        refine ⟨_, rfl, _, _, _, _, false, rfl, .ty "bool", ty, kb, _, rfl, iteF ?_⟩
        refine ⟨_, rfl, _, _, _, _, false, rfl, .ty "bool", tx, kb, _, rfl, iteF ?_⟩
        refine ⟨_, rfl, (by show 2 ≤ sizeLine; decide), fun p np => ?_⟩
        have s1 : Same H (upd H p (.tup [.ty "int", .ty "str"])) := same_upd np
        refine ⟨_, p, _, _, _, true, rfl, upd_same, .cons (.ty "int") (.cons (.ty "str") .nil), .base (.int i), kitAny_cons ki (fun z => nomatch z) (fun _ => rfl), _, rfl, iteT ?_⟩
        refine ⟨_, rfl, (by show 2 ≤ sizeLine; decide), fun p2 np2 => ?_⟩
        have s2 : Same _ (upd _ p2 (.tup [.ty "int", .ty "str"])) := same_upd np2
        refine ⟨_, p2, _, _, _, true, rfl, upd_same, .cons (.ty "int") (.cons (.ty "str") .nil), .base (.int i), kitAny_cons ki (fun z => nomatch z) (fun _ => rfl), true, rfl, iteT ?_⟩
        refine ⟨_, rfl, _, _, _, _, true, rfl, .ty "int", .base (.int i), ki, ?_⟩
        refine ⟨_, rfl, _, _, _, _, true, rfl, .ty "int", .base (.int i), ki, rfl, true, rfl, iteT ?_⟩
        refine ⟨_, rfl, _, rfl, .int i, .int i, .int i, .int i, sd, sd, ?_⟩
        rw [er]
        exact q _ (s1.trans s2)
      · have tx : TyX K H x (.type "str") := tx
        have ty : TyX K H y (.type "str") := ty
        have kb : PySem.W.kitOne K (.type "str") (.type "bool") = some false := kit_ty (by decide +kernel)
        have ki : PySem.W.kitOne K (.type "str") (.type "int") = some false := kit_ty (by decide +kernel)
        have ks : PySem.W.kitOne K (.type "str") (.type "str") = some true := kit_ty (by decide +kernel)
        have kk : PySem.W.kitAny K (.type "str") [.type "int", .type "str"] = some true := kitAny_cons ki (fun _ => kitAny_cons ks (fun z => nomatch z) (fun _ => rfl)) (fun z => nomatch z)
        cases dx
        cases dy
        refine ⟨_, rfl, rfl, _, rfl, iteF ?_⟩
        refine ⟨_, rfl, _, _, _, _, false, rfl, .ty "bool", ty, kb, _, rfl, iteF ?_⟩
        refine ⟨_, rfl, _, _, _, _, false, rfl, .ty "bool", tx, kb, _, rfl, iteF ?_⟩
        refine ⟨_, rfl, (by show 2 ≤ sizeLine; decide), fun p np => ?_⟩
        have s1 : Same H (upd H p (.tup [.ty "int", .ty "str"])) := same_upd np
        refine ⟨_, p, _, _, _, true, rfl, upd_same, .cons (.ty "int") (.cons (.ty "str") .nil), .base (.str z), kk, _, rfl, iteT ?_⟩
        refine ⟨_, rfl, (by show 2 ≤ sizeLine; decide), fun p2 np2 => ?_⟩
        have s2 : Same _ (upd _ p2 (.tup [.ty "int", .ty "str"])) := same_upd np2
        refine ⟨_, p2, _, _, _, true, rfl, upd_same, .cons (.ty "int") (.cons (.ty "str") .nil), .base (.str z), kk, true, rfl, iteT ?_⟩
        refine ⟨_, rfl, _, _, _, _, false, rfl, .ty "int", .base (.str z), ki, ?_⟩
        refine ⟨_, rfl, _, _, _, _, false, rfl, .ty "int", .base (.str z), ki, rfl, true, rfl, iteT ?_⟩
        refine ⟨_, rfl, _, rfl, .str z, .str z, .str z, .str z, sd, sd, ?_⟩
        rw [er]
        exact q _ (s1.trans s2)
      · cases dx
        cases dy
        refine ⟨_, rfl, rfl, _, rfl, iteT ?_⟩
        exact ⟨_, rfl, rfl, q _ (Same.refl _)⟩
      · -- a list or a tuple
        obtain ⟨ax, ay, xs, ys, nm, rfl, rfl, hsx, hsy, hax, hay, tx, ty, hnm, enm⟩ : ∃ (ax ay : Addr) (xs ys : List V) (nm : String), x = .ref ax ∧ y = .ref ay ∧ (SqL K H ax xs ∨ SqT K H ax xs) ∧ (SqL K H ay ys ∨ SqT K H ay ys) ∧ DpAll K H xs ds ∧ DpAll K H ys ds ∧
            TyX K H x (.type nm) ∧ TyX K H y (.type nm) ∧ (nm = "list" ∨ nm = "tuple") ∧ nm = tyN d := by
          rcases hd with rfl | rfl
          · cases dx with
            | lst h1 h2 =>
              cases dy with
              | lst h3 h4 => exact ⟨_, _, _, _, "list", rfl, rfl, .inl h1, .inl h3, h2, h4, tx, ty, .inl rfl, rfl⟩
          · cases dx with
            | tup h1 h2 =>
              cases dy with
              | tup h3 h4 => exact ⟨_, _, _, _, "tuple", rfl, rfl, .inr h1, .inr h3, h2, h4, tx, ty, .inr rfl, rfl⟩
        have kb : PySem.W.kitOne K (.type nm) (.type "bool") = some false := by rcases hnm with rfl | rfl <;> exact kit_ty (by decide +kernel)
        have ki : PySem.W.kitOne K (.type nm) (.type "int") = some false := by rcases hnm with rfl | rfl <;> exact kit_ty (by decide +kernel)
        have ks : PySem.W.kitOne K (.type nm) (.type "str") = some false := by rcases hnm with rfl | rfl <;> exact kit_ty (by decide +kernel)
        obtain ⟨bl, kl⟩ : ∃ bl, PySem.W.kitOne K (.type nm) (.type "list") = some bl := by
          rcases hnm with rfl | rfl
          · exact ⟨true, kit_ty (by decide +kernel)⟩
          · exact ⟨false, kit_ty (by decide +kernel)⟩
        obtain ⟨bt, kt⟩ : ∃ bt, PySem.W.kitOne K (.type nm) (.type "tuple") = some bt := by
          rcases hnm with rfl | rfl
          · exact ⟨false, kit_ty (by decide +kernel)⟩
          · exact ⟨true, kit_ty (by decide +kernel)⟩
        have kk : PySem.W.kitAny K (.type nm) [.type "int", .type "str"] = some false := kitAny_cons ki (fun _ => kitAny_cons ks (fun _ => rfl) (fun z => nomatch z)) (fun z => nomatch z)
        have kq : PySem.W.kitAny K (.type nm) [.type "list", .type "tuple"] = some true := by
          rcases hnm with rfl | rfl
          · exact kitAny_cons (b := true) (kit_ty (by decide +kernel)) (fun z => nomatch z) (fun _ => rfl)
          · exact kitAny_cons (b := false) (kit_ty (by decide +kernel)) (fun _ => kitAny_cons (b := true) (kit_ty (by decide +kernel)) (fun z => nomatch z) (fun _ => rfl)) (fun z => nomatch z)
        have typ : ∀ {H' : Hp} {v : V}, Same H H' → TyX K H v (.type nm) → (v = .ref ax ∨ v = .ref ay) → TyX K H' v (.type nm) := by
          intro H' v sm h hv
          rw [enm]
          rcases hv with rfl | rfl
          · exact ty_dp (dp_same sm dx)
          · exact ty_dp (dp_same sm dy)
        refine ⟨_, rfl, rfl, _, rfl, iteF ?_⟩
        refine ⟨_, rfl, _, _, _, _, false, rfl, .ty "bool", ty, kb, _, rfl, iteF ?_⟩
        refine ⟨_, rfl, _, _, _, _, false, rfl, .ty "bool", tx, kb, _, rfl, iteF ?_⟩
        refine ⟨_, rfl, (by show 2 ≤ sizeLine; decide), fun p np => ?_⟩
        have s1 : Same H (upd H p (.tup [.ty "int", .ty "str"])) := same_upd np
        refine ⟨_, p, _, _, _, false, rfl, upd_same, .cons (.ty "int") (.cons (.ty "str") .nil), typ s1 ty (.inr rfl), kk, _, rfl, iteF ?_⟩
        refine ⟨_, rfl, _, _, _, _, bl, rfl, .ty "list", typ s1 ty (.inr rfl), kl, ?_⟩
        refine ⟨_, rfl, _, _, _, _, bl, rfl, .ty "list", typ s1 tx (.inl rfl), kl, rfl, _, rfl, ifF (by simp) ?_⟩
        refine ⟨_, rfl, _, _, _, _, bt, rfl, .ty "tuple", typ s1 ty (.inr rfl), kt, ?_⟩
        refine ⟨_, rfl, _, _, _, _, bt, rfl, .ty "tuple", typ s1 tx (.inl rfl), kt, rfl, _, rfl, ifF (by simp) ?_⟩
        refine ⟨_, rfl, (by show 2 ≤ sizeLine; decide), fun p2 np2 => ?_⟩
        have s2 : Same H _ := s1.trans (same_upd (o := .tup [.ty "list", .ty "tuple"]) np2)
        refine ⟨_, p2, _, _, _, true, rfl, upd_same, .cons (.ty "list") (.cons (.ty "tuple") .nil), typ s2 tx (.inl rfl), kq, _, rfl, iteF ?_⟩
        have sq2 : ∀ {H' : Hp} {a : Addr} {zs : List V}, Same H H' → (SqL K H a zs ∨ SqT K H a zs) → (SqL K H' a zs ∨ SqT K H' a zs) := fun sm h => h.elim (fun z => .inl (sm.seq z)) (fun z => .inr (same_t sm z))
        refine ⟨_, rfl, ax, xs, rfl, sq2 s2 hsx, _, rfl, ay, ys, rfl, sq2 s2 hsy, rfl, _, rfl, ifF (by rw [dpa_len hax, dpa_len hay]; simp) ?_⟩
        refine ⟨_, rfl, ay, ys, rfl, sq2 s2 hsy, _, rfl, ?_, ?_, fun D nD => lc_range (lo := 0) (n := ((ys.length : Int)).toNat) (fun i H' => Same H H' ∧ H' D = some (.lst ((List.replicate i true).map V.bl))) ?_ ?_ ?_⟩
        · rw [dpa_len hay]
          omega
        · rw [dpa_len hay]
          omega
        · exact ⟨s2.trans (same_upd nD), upd_same⟩
        · rintro i H' hi ⟨sm, eD⟩
          rw [Int.toNat_natCast] at hi
          have hds : i < ds.length := by rw [← dpa_len hay]; exact hi
          obtain ⟨vx, gx, dvx⟩ := dpa_get hax (List.getElem?_eq_getElem hds)
          obtain ⟨vy, gy, dvy⟩ := dpa_get hay (List.getElem?_eq_getElem hds)
          have ix : ∀ {a : Addr} {zs : List V} {v : V} {Q' : VK}, (SqL K H a zs ∨ SqT K H a zs) → zs[i]? = some v → Q' v H' → rIx K (.ref a) (.int (0 + (i : Int))) H' Q' := by
            intro a zs v Q' h g q'
            have e : atI zs (0 + (i : Int)) = some v := by rw [Int.zero_add]; exact atI_nat g
            rcases sq2 sm h with h | h
            · exact .inl ⟨a, zs, _, v, rfl, rfl, h, e, q'⟩
            · exact .inr (.inl ⟨a, zs, _, v, rfl, rfl, h, e, q'⟩)
          refine ⟨rfl, tYes_by (iteT ?_)⟩
          refine ⟨_, rfl, _, rfl, ix hsx gx ?_⟩
          refine ⟨_, rfl, _, rfl, ix hsy gy ?_⟩
          refine ⟨vx, vy, ds[i], rfl, dp_same sm dvx, dp_same sm dvy, hn _ (List.getElem_mem hds), ?_, fun H2 s4 => ?_⟩
          · exact shaped_mem (List.getElem_mem hds) (hd.elim (fun z => .inl (z ▸ sd)) (fun z => .inr (z ▸ sd)))
          · refine ⟨_, s4 _ _ eD, ?_, ?_, ?_⟩
            · rw [List.length_map, List.length_replicate]
              exact Nat.lt_of_lt_of_le (show i < 100000 by omega) (by decide)
            · exact same_mut (sm.trans s4) (s2.free nD)
            · rw [upd_same, List.replicate_succ', List.map_append]
              rfl
        · rintro H' ⟨sm, eD⟩
          refine ⟨D, _, rfl, SqL.of eD, ?_⟩
          have e : (List.replicate ((ys.length : Int)).toNat true).all id = true := by simp
          rw [e]
          exact q _ sm
theorem sc__law_bits : FnScope ["_law_bag_here", "_law_size", "_law_thick", "_law_flip", "_law_k"] ["_law_bag_here", "_law_size"] (defScope s__law_bits) := ⟨rfl, rfl, rfl, by decide +kernel, rfl, by decide +kernel, by decide +kernel⟩
/-- some bits, so many -/
def spBits : Sp := fun vs H Q _ => ∃ (b : Addr × Addr) (m : Int), vs = [.ref b.1, .int m] ∧ Bag b H ∧ m ≤ 100000 ∧ -100000 ≤ m ∧ ∀ (H' : Hp) (p : Addr) (ns : List Int), Mv b.1 H H' → Bag b H' → H p = none → H' p = some (.lst (ns.map V.int)) → Bits ns → ns.length = m.toNat → Q (.ref p) H'
theorem ok__law_bits {f : Addr} {fd : FuncData} {k : Nat} (F : Fun K "_law_bits" "_law_bits" s__law_bits f fd) (n_range : mg "range" = none) (c__law_pick : Cal P w K mg base k "_law_pick" ["_law_bag_here", "_law_top"] spPick) :
    FnOk P w K mg base CX0 (k + 1) f fd ["_law_bag_here", "_law_size"] spBits := by
  have sc := sc__law_bits
  refine F.ok sc (fun vs H Q E h => ?_) (fun cdv A outer s H vs Q E hr h => ?_)
  · obtain ⟨b, m, rfl, _⟩ := h
    rfl
  · obtain ⟨b, m, rfl, hB, hm1, hm0, q⟩ := h
    refine ⟨_, (pss_cons (ps_set (i := 2) sc.nd rfl (.inr rfl) (pe_ix (ix_listK K rfl) (pe_lst (pa_cons pe_int (pa_cons pe_int (pa_cons pe_int (pa_cons pe_int pa_nil))))) (pe_callC c__law_pick hr (by rfl) (pa_cons (pv 0) (pa_cons pe_int pa_nil))) (fun _ _ => rfl)))
 (pss_cons (ps_set (i := 3) sc.nd rfl (.inr rfl) (pe_callC c__law_pick hr (by rfl) (pa_cons (pv 0) (pa_cons pe_int pa_nil))))
 (pss_cons (ps_if (pt_cmpR op_eq (pv 2) pe_int (nomark _))
  (pss_one (ps_ret (pe_lc (own := [("_law_k", 4)]) (g := gName 4) (by rfl) sc.nd (pi_range1 (by rfl) n_range (pa_cons (pv 1) pa_nil)) (blkOk_by (own := [("_law_k", 4)]) (N := ["_law_bag_here", "_law_size", "_law_thick", "_law_flip", "_law_k"]) (sc := defScope s__law_bits) (by decide +kernel)) (fun _ _ _ _ _ => pg_name (i := 4) sc.nd rfl (Or.inl rfl)) (fun _ _ _ _ _ => pts_nil) (fun _ _ _ _ _ => (pe_callC c__law_pick hr (by rfl) (pa_cons (pv 0) (pa_cons pe_int pa_nil)))))))
  pss_nil)
 (pss_one (ps_ret (pe_lc (own := [("_law_k", 4)]) (g := gName 4) (by rfl) sc.nd (pi_range1 (by rfl) n_range (pa_cons (pv 1) pa_nil)) (blkOk_by (own := [("_law_k", 4)]) (N := ["_law_bag_here", "_law_size", "_law_thick", "_law_flip", "_law_k"]) (sc := defScope s__law_bits) (by decide +kernel)) (fun _ _ _ _ _ => pg_name (i := 4) sc.nd rfl (Or.inl rfl)) (fun _ _ _ _ _ => pts_nil) (fun _ _ _ _ _ => (pe_ifExp (pt_cmpR op_eq (pe_callC c__law_pick hr (by rfl) (pa_cons (pv 0) (pa_cons (pv 2) pa_nil))) pe_int (nomark _)) (pv 3) (pe_op op_sub pe_int (pv 3)))))))))), ?_⟩
    refine ⟨(by show 4 ≤ sizeLine; decide), fun p0 n0 => ?_⟩
    have h0 : SH b _ _ := (SH.nil hB).new (o := .lst [.int 2, .int 2, .int 5, .int 9]) n0
    have m0 : Mv b.1 H (upd H p0 (.lst [.int 2, .int 2, .int 5, .int 9])) := Mv.of (same_upd n0)
    refine ⟨_, rfl, b, 4, rfl, h0.bag, by decide, by decide, fun H1 d mv1 hB1 d0 d1 => ?_⟩
    have h1 := h0.mv mv1 hB1
    obtain ⟨v, hv, hat⟩ : ∃ v : Int, (v = 2 ∨ v = 5 ∨ v = 9) ∧ atI [V.int 2, V.int 2, V.int 5, V.int 9] d = some (.int v) := by
      have : d = 0 ∨ d = 1 ∨ d = 2 ∨ d = 3 := by omega
      rcases this with rfl | rfl | rfl | rfl
      · exact ⟨2, .inl rfl, rfl⟩
      · exact ⟨2, .inl rfl, rfl⟩
      · exact ⟨5, .inr (.inl rfl), rfl⟩
      · exact ⟨9, .inr (.inr rfl), rfl⟩
    refine ⟨p0, _, d, _, rfl, rfl, SqL.of (h1.get (.head _)), hat, ?_⟩
    refine ⟨_, rfl, b, 2, rfl, hB1, by decide, by decide, fun H2 fp mv2 hB2 f0 f1 => ?_⟩
    have m2 := (m0.trans mv1).trans mv2
    have done : ∀ D : Addr, H2 D = none → ∀ H3 : Hp, (∃ ns : List Int, Mv b.1 H2 H3 ∧ Bag b H3 ∧ H3 D = some (.lst (ns.map V.int)) ∧ Bits ns ∧ ns.length = m.toNat) → Q (.ref D) H3 := by
      rintro D nD H3 ⟨ns, mv3, hB3, eD, hb, hl⟩
      exact q H3 D ns (m2.trans mv3) hB3 (m2.none (hB2.ne nD) nD) eD hb hl
    have turn : ∀ (D : Addr) (H3 H4 : Hp) (i : Nat) (y : Int), H2 D = none → i < m.toNat → (∃ ns : List Int, Mv b.1 H2 H3 ∧ Bag b H3 ∧ H3 D = some (.lst (ns.map V.int)) ∧ Bits ns ∧ ns.length = i) → Mv b.1 H3 H4 → Bag b H4 → (y = 0 ∨ y = 1) →
        ∃ acc, H4 D = some (.lst acc) ∧ acc.length < sizeLine ∧ ∃ ns : List Int, Mv b.1 H2 (upd H4 D (.lst (acc ++ [.int y]))) ∧ Bag b (upd H4 D (.lst (acc ++ [.int y]))) ∧ upd H4 D (.lst (acc ++ [.int y])) D = some (.lst (ns.map V.int)) ∧ Bits ns ∧ ns.length = i + 1 := by
      rintro D H3 H4 i y nD hi ⟨ns, mv3, hB3, eD, hb, hl⟩ mv4 hB4 hy
      have neD : D ≠ b.1 := hB2.ne nD
      refine ⟨_, mv4 _ _ neD eD, ?_, ns ++ [y], ?_, ?_, ?_, bits_app hb (bits_one hy), by simp [hl]⟩
      · rw [List.length_map, hl]
        exact Nat.lt_of_lt_of_le (show i < 100000 by omega) (by decide)
      · intro a o ne ha
        rw [upd_ne (ne_of_none ha nD)]
        exact mv4 a o ne (mv3 a o ne ha)
      · exact hB4.upd neD (hB2.ne2 nD)
      · rw [upd_same, List.map_append]
        rfl
    refine name_by ?_
    dsimp only
    refine ⟨_, rfl, rfl, _, rfl, ite2 (fun e => ?_) (fun e => ?_)⟩
    · refine ⟨_, rfl, m, rfl, by omega, by omega, fun D nD => lc_range (lo := 0) (n := m.toNat) (fun i H' => ∃ ns : List Int, Mv b.1 H2 H' ∧ Bag b H' ∧ H' D = some (.lst (ns.map V.int)) ∧ Bits ns ∧ ns.length = i) ?_ ?_ (done D nD)⟩
      · exact ⟨[], Mv.of (same_upd nD), hB2.same (same_upd nD), upd_same, bits_nil, rfl⟩
      · intro i H3 hi pv
        obtain ⟨ns, mv3, hB3, eD, hb, hl⟩ := id pv
        refine ⟨rfl, tYes_by (iteT ?_)⟩
        refine ⟨_, rfl, b, 2, rfl, hB3, by decide, by decide, fun H4 y mv4 hB4 y0 y1 => ?_⟩
        exact turn D H3 H4 i y nD hi pv mv4 hB4 (by omega)
    · refine ⟨_, rfl, m, rfl, by omega, by omega, fun D nD => lc_range (lo := 0) (n := m.toNat) (fun i H' => ∃ ns : List Int, Mv b.1 H2 H' ∧ Bag b H' ∧ H' D = some (.lst (ns.map V.int)) ∧ Bits ns ∧ ns.length = i) ?_ ?_ (done D nD)⟩
      · exact ⟨[], Mv.of (same_upd nD), hB2.same (same_upd nD), upd_same, bits_nil, rfl⟩
      · intro i H3 hi pv
        obtain ⟨ns, mv3, hB3, eD, hb, hl⟩ := id pv
        refine ⟨rfl, tYes_by (iteT ?_)⟩
        refine ⟨_, rfl, _, rfl, b, v, rfl, hB3, by omega, by omega, fun H4 y mv4 hB4 y0 y1 => ?_⟩
        refine ⟨rfl, _, rfl, ite2 (fun e => ?_) (fun e => ?_)⟩
        · exact ⟨_, rfl, turn D H3 H4 i fp nD hi pv mv4 hB4 (by omega)⟩
        · exact ⟨_, rfl, _, _, rfl, rfl, turn D H3 H4 i (1 - fp) nD hi pv mv4 hB4 (by omega)⟩
theorem sc__law_stuffed : FnScope ["_law_signs", "_law_text", "_law_found", "_law_sign"] ["_law_signs"] (defScope s__law_stuffed) := ⟨rfl, rfl, rfl, by decide +kernel, rfl, by decide +kernel, by decide +kernel⟩
def spStuff (K : PySem.W.Frag) : Sp := fun vs H Q _ => ∃ (a : Addr) (ns : List Int), vs = [.ref a] ∧ SqL K H a (ns.map V.int) ∧ ns.length ≤ 10000 ∧ Bits ns ∧ ∀ (H' : Hp) (p : Addr), Same H H' → H p = none → H' p = some (.lst ((stuffL ns).map V.int)) → Q (.ref p) H'
theorem ok__law_stuffed {f : Addr} {fd : FuncData} {k : Nat} (F : Fun K "_law_stuffed" "_law_stuffed" s__law_stuffed f fd) (n_str : mg "str" = none) (n_int : mg "int" = none) : FnOk P w K mg base CX0 (k + 1) f fd ["_law_signs"] (spStuff K) := by
  have sc := sc__law_stuffed
  refine F.ok sc (fun vs H Q E h => ?_) (fun cdv A outer s H vs Q E hr h => ?_)
  · obtain ⟨a, ns, rfl, _⟩ := h
    rfl
  · obtain ⟨a, ns, rfl, hS, hl, hB, q⟩ := h
    refine ⟨_, (pss_cons (ps_set (i := 1) sc.nd rfl (.inl rfl) (pe_join pe_str (pe_lc (own := [("_law_sign", 3)]) (g := gName 3) (by rfl) sc.nd (pi_listK K rfl (pv 0)) (blkOk_by (own := [("_law_sign", 3)]) (N := ["_law_signs", "_law_text", "_law_found", "_law_sign"]) (sc := defScope s__law_stuffed) (by decide +kernel)) (fun _ _ _ _ _ => pg_name (i := 3) sc.nd rfl (Or.inl rfl)) (fun _ _ _ _ _ => pts_nil) (fun _ _ _ _ _ => (pe_callTy call_str_int (by rfl) n_str (by decide +kernel) (pa_cons (pv 3) pa_nil))))))
 (pss_cons (ps_set (i := 2) sc.nd rfl (.inl rfl) pe_str)
 (pss_cons (ps_for PassesOwn.never rfl (pi_str (pv 1)) (pg_name (i := 3) sc.nd rfl (.inl rfl))
  (pss_cons (ps_set (i := 2) sc.nd rfl (.inl rfl) (pe_op op_add_str (pv 2) (pv 3)))
 (pss_one (ps_if (pt_val (pe_m1 PySem.F.slot_str_endswith PySem.F.type_str_endswith mt_endswith (pv 2) pe_str))
  (pss_one (ps_set (i := 2) sc.nd rfl (.inl rfl) (pe_op op_add_str (pv 2) pe_str)))
  pss_nil))))
 (pss_one (ps_ret (pe_lc (own := [("_law_sign", 3)]) (g := gName 3) (by rfl) sc.nd (pi_str (pv 2)) (blkOk_by (own := [("_law_sign", 3)]) (N := ["_law_signs", "_law_text", "_law_found", "_law_sign"]) (sc := defScope s__law_stuffed) (by decide +kernel)) (fun _ _ _ _ _ => pg_name (i := 3) sc.nd rfl (Or.inl rfl)) (fun _ _ _ _ _ => pts_nil) (fun _ _ _ _ _ => (pe_callTy call_int_str (by rfl) n_int (by decide +kernel) (pa_cons (pv 3) pa_nil))))))))), ?_⟩
    -- the text
    refine ⟨⟨_, rfl⟩, _, rfl, a, rfl, ⟨_, hS⟩, fun D nD => lc_list (K := K) (a := a) (xs := ns.map V.int) (fun i H' => Same H H' ∧ H' D = some (.lst (((ns.take i).map strI).map V.str))) ⟨same_upd nD, upd_same⟩ (fun i H' _ h => h.1.seq hS) ?_ ?_⟩
    · rintro i x H' hx ⟨sm, eD⟩
      obtain ⟨z, hz, rfl⟩ := getI hx
      have zb := hB z (List.mem_of_getElem? hz)
      refine ⟨rfl, tYes_by (iteT ?_)⟩
      refine ⟨_, rfl, z, rfl, ?_, _, eD, ?_, same_mut sm nD, ?_⟩
      · rcases zb with rfl | rfl <;> decide
      · rw [List.length_map, List.length_map, List.length_take]
        exact sz4l (by omega)
      · rw [upd_same, take_more hz, List.map_append, List.map_append]
        rfl
    · rintro H1 ⟨s1, eD⟩
      rw [List.length_map, List.take_length] at eD
      have hsum : ((ns.map strI).map (·.length)).sum ≤ 2 * ns.length := by
        clear eD hS q hl nD s1
        induction ns with
        | nil => exact Nat.le_refl _
        | cons b r ih =>
          have h := bits_cons hB
          have := ih h.2
          show (strI b).length + ((r.map strI).map (·.length)).sum ≤ 2 * (r.length + 1)
          have e1 : (strI b).length ≤ 2 := by
            rcases h.1 with rfl | rfl <;> decide
          omega
      refine ⟨"", D, ns.map strI, rfl, rfl, .inl (SqL.of eD), ?_, ?_⟩
      · have e0 : (("" : Str)).length = 0 := rfl
        rw [e0, Nat.mul_zero]
        omega
      rw [join_dig hB]
      -- found
      refine ⟨_, rfl, _, rfl, for_strK (fun i σ H' => ∃ y3, σ = [some (.ref a), some (.str (dig ns)), some (.str (dig (stR (ns.take i)).1)), y3] ∧ H' = H1) ⟨none, rfl, rfl⟩ ?_ ?_⟩
      · rintro i c σ H' hc ⟨y3, rfl, rfl⟩
        obtain ⟨z, hz, ec⟩ : ∃ z, ns[i]? = some z ∧ c = if z = 1 then 49 else 48 := by
          have hc : (dc ns).toArray[i]? = some c := hc
          rw [List.getElem?_toArray] at hc
          unfold dc at hc
          rw [List.getElem?_map] at hc
          cases e : ns[i]? with
          | none => rw [e] at hc; cases hc
          | some z => rw [e] at hc; exact ⟨z, rfl, (Option.some.inj hc).symm⟩
        have hil : i < ns.length := (List.getElem?_eq_some_iff.mp hz).1
        have zb := hB z (List.mem_of_getElem? hz)
        have ok := stR_ok hB i (by omega)
        have more := stR_more hz
        generalize stR (ns.take i) = st at ok more ⊢
        have ed : (⟨#[c]⟩ : Str) = dig [z] := by
          rw [ec]
          rfl
        rw [ed]
        have hlen := ok.len
        refine ⟨_, rfl, _, rfl, _, _, rfl, rfl, ?_, ?_⟩
        · rw [dig_len, dig_len]
          exact sz4 (by show st.1.length + 1 ≤ 100000; omega)
        rw [dig_app]
        refine ⟨_, rfl, ⟨_, rfl⟩, _, _, rfl, rfl, _, rfl, ite2 (fun e => ?_) (fun e => ?_)⟩
        · rw [ends5, tro_snoc, ok.tr] at e
          have h5 : (if z = 1 then st.2 + 1 else 0) = 5 := by
            have e := of_decide_eq_true e
            have := ok.lt
            split at e <;> rename_i y <;> simp only [y, if_true, if_false] <;> omega
          refine ⟨_, rfl, _, _, rfl, rfl, ?_, ?_⟩
          · rw [dig_len, List.length_append]
            exact sz4 (by show st.1.length + 1 + 1 ≤ 100000; omega)
          rw [show ((Str.ofString "0") : Str) = dig [0] from rfl, dig_app]
          refine ⟨some (.str (dig [z])), ?_, rfl⟩
          rw [more]
          unfold stS
          rw [if_pos h5]
          rfl
        · rw [ends5, tro_snoc, ok.tr] at e
          have h5 : ¬ (if z = 1 then st.2 + 1 else 0) = 5 := fun y => e (decide_eq_true (by omega))
          refine ⟨some (.str (dig [z])), ?_, rfl⟩
          rw [more]
          unfold stS
          rw [if_neg h5]
          rfl
      · rintro σ H' ⟨y3, rfl, rfl⟩
        have esz : (dig ns).cps.size = ns.length := dig_len ns
        rw [esz, List.take_length]
        have ok := stuff_ok hB
        have hlen := ok.len
        have hbits := ok.bits
        have hq : ∀ (H2 : Hp) (p : Addr), Same H H2 → H p = none → H2 p = some (.lst ((stR ns).1.map V.int)) → Q (.ref p) H2 := q
        generalize (stR ns).1 = L at hlen hbits hq ⊢
        refine ⟨_, rfl, _, rfl, fun D2 nD2 => lc_strK (fun i H2 => Same H H2 ∧ H2 D2 = some (.lst ((L.take i).map V.int))) ⟨s1.trans (same_upd nD2), upd_same⟩ ?_ ?_⟩
        · rintro i c H2 hc ⟨sm, e2⟩
          obtain ⟨z, hz, ec⟩ : ∃ z, L[i]? = some z ∧ c = if z = 1 then 49 else 48 := by
            have hc : (dc L).toArray[i]? = some c := hc
            rw [List.getElem?_toArray] at hc
            unfold dc at hc
            rw [List.getElem?_map] at hc
            cases e : L[i]? with
            | none => rw [e] at hc; cases hc
            | some z => rw [e] at hc; exact ⟨z, rfl, (Option.some.inj hc).symm⟩
          have zb := hbits z (List.mem_of_getElem? hz)
          have hil : i < L.length := (List.getElem?_eq_some_iff.mp hz).1
          refine ⟨rfl, tYes_by (iteT ?_)⟩
          refine ⟨_, rfl, _, z, rfl, ?_, by show 1 ≤ 640; decide, _, e2, ?_, same_mut sm (s1.free nD2), ?_⟩
          · rw [ec]
            rcases zb with rfl | rfl <;> decide +kernel
          · rw [List.length_map, List.length_take]
            exact sz4l (by omega)
          · rw [upd_same, take_more hz, List.map_append]
            rfl
        · rintro H2 ⟨sm, e2⟩
          have esz : (dig L).cps.size = L.length := dig_len L
          rw [esz, List.take_length] at e2
          exact hq H2 D2 sm (s1.free nD2) e2
theorem sc__law_mark : FnScope [] [] (defScope s__law_mark) := ⟨rfl, rfl, rfl, by decide +kernel, rfl, by decide +kernel, by decide +kernel⟩
def spMark : Sp := fun vs H Q _ => vs = [] ∧ ∀ (H' : Hp) (p : Addr), Same H H' → H p = none → H' p = some (.lst (markL.map V.int)) → Q (.ref p) H'
theorem ok__law_mark {f : Addr} {fd : FuncData} {k : Nat} (F : Fun K "_law_mark" "_law_mark" s__law_mark f fd) : FnOk P w K mg base CX0 (k + 1) f fd [] spMark := by
  have sc := sc__law_mark
  refine F.ok sc (fun vs H Q E h => ?_) (fun cdv A outer s H vs Q E hr h => ?_)
  · rw [h.1]
    rfl
  · obtain ⟨rfl, q⟩ := h
    refine ⟨_, (pss_one (ps_ret (pe_lst (pa_cons pe_int (pa_cons pe_int (pa_cons pe_int (pa_cons pe_int (pa_cons pe_int (pa_cons pe_int (pa_cons pe_int (pa_cons pe_int pa_nil))))))))))), ?_⟩
    exact ⟨(by show 8 ≤ sizeLine; decide), fun p np => q _ p (same_upd np) np upd_same⟩
theorem sc__law_frame : FnScope ["_law_signs"] ["_law_signs"] (defScope s__law_frame) := ⟨rfl, rfl, rfl, by decide +kernel, rfl, by decide +kernel, by decide +kernel⟩
def spLfr (K : PySem.W.Frag) : Sp := fun vs H Q _ => ∃ (a : Addr) (ns : List Int), vs = [.ref a] ∧ H a = some (.lst (ns.map V.int)) ∧ ns.length ≤ 9000 ∧ Bits ns ∧ ∀ (H' : Hp) (p : Addr), Same H H' → H p = none → H' p = some (.lst ((frameL ns).map V.int)) → Q (.ref p) H'
theorem ok__law_frame {f : Addr} {fd : FuncData} {k : Nat} (F : Fun K "_law_frame" "_law_frame" s__law_frame f fd) (c__law_mark : Cal P w K mg base k "_law_mark" [] spMark) (c__law_stuffed : Cal P w K mg base k "_law_stuffed" ["_law_signs"] (spStuff K)) (c__law_seal : Cal P w K mg base k "_law_seal" ["_law_signs"] (spSeal K)) : FnOk P w K mg base CX0 (k + 1) f fd ["_law_signs"] (spLfr K) := by
  have sc := sc__law_frame
  refine F.ok sc (fun vs H Q E h => ?_) (fun cdv A outer s H vs Q E hr h => ?_)
  · obtain ⟨a, ns, rfl, _⟩ := h
    rfl
  · obtain ⟨a, ns, rfl, hS, hl, hB, q⟩ := h
    refine ⟨_, (pss_one (ps_ret (pe_op op_cat (pe_op op_cat (pe_callC0 c__law_mark hr (by rfl)) (pe_callC c__law_stuffed hr (by rfl) (pa_cons (pe_op op_cat (pv 0) (pe_callC c__law_seal hr (by rfl) (pa_cons (pv 0) pa_nil))) pa_nil))) (pe_callC0 c__law_mark hr (by rfl))))), ?_⟩
    refine ⟨rfl, fun H1 p1 s1 n1 e1 => ?_⟩
    refine ⟨_, rfl, _, rfl, a, ns, rfl, SqL.of (s1 _ _ hS), hB, fun H2 p2 s2 n2 e2 => ?_⟩
    have s12 := s1.trans s2
    refine ⟨a, p2, _, _, rfl, rfl, s12 _ _ hS, e2, ?_, fun p3 n3 => ?_⟩
    · rw [List.length_map, List.length_map, seal_len]
      exact sz4 (by omega)
    rw [← List.map_append]
    have s3 := s12.trans (same_upd (o := .lst ((ns ++ sealL ns).map V.int)) n3)
    have hsb : Bits (ns ++ sealL ns) := frame_bits hB
    have hsl : (ns ++ sealL ns).length ≤ 9100 := by rw [List.length_append, seal_len]; omega
    refine ⟨p3, ns ++ sealL ns, rfl, SqL.of upd_same, by omega, hsb, fun H4 p4 s4 n4 e4 => ?_⟩
    have hst : (stuffL (ns ++ sealL ns)).length ≤ 2 * (ns ++ sealL ns).length := (stuff_ok hsb).len
    refine ⟨p1, p4, _, _, rfl, rfl, s4 _ _ (same_upd n3 _ _ (s2 _ _ e1)), e4, ?_, fun p5 n5 => ?_⟩
    · rw [List.length_map, List.length_map]
      exact sz4 (by show 8 + (stuffL (ns ++ sealL ns)).length ≤ 100000; omega)
    rw [← List.map_append]
    have s5 := (s3.trans s4).trans (same_upd (o := .lst ((markL ++ stuffL (ns ++ sealL ns)).map V.int)) n5)
    refine ⟨rfl, fun H6 p6 s6 n6 e6 => ?_⟩
    refine ⟨p5, p6, _, _, rfl, rfl, s6 _ _ upd_same, e6, ?_, fun p7 n7 => ?_⟩
    · rw [List.length_map, List.length_map, List.length_append]
      exact sz4 (by show 8 + (stuffL (ns ++ sealL ns)).length + 8 ≤ 100000; omega)
    rw [← List.map_append]
    have s7 := s5.trans s6
    exact q _ p7 (s7.trans (same_upd n7)) (s7.free n7) upd_same
theorem sc__law_payload : FnScope ["_law_bag_here", "_law_most"] ["_law_bag_here", "_law_most"] (defScope s__law_payload) := ⟨rfl, rfl, rfl, by decide +kernel, rfl, by decide +kernel, by decide +kernel⟩
def spPay : Sp := fun vs H Q _ => ∃ (b : Addr × Addr) (m : Int), vs = [.ref b.1, .int m] ∧ Bag b H ∧ 0 < m ∧ m ≤ 1000 ∧ ∀ (H' : Hp) (p : Addr) (ns : List Int), Mv b.1 H H' → Bag b H' → H p = none → H' p = some (.lst (ns.map V.int)) → Bits ns → 0 < ns.length → (ns.length : Int) ≤ m → Q (.ref p) H'
theorem ok__law_payload {f : Addr} {fd : FuncData} {k : Nat} (F : Fun K "_law_payload" "_law_payload" s__law_payload f fd) (c__law_bits : Cal P w K mg base k "_law_bits" ["_law_bag_here", "_law_size"] spBits) (c__law_pick : Cal P w K mg base k "_law_pick" ["_law_bag_here", "_law_top"] spPick) : FnOk P w K mg base CX0 (k + 1) f fd ["_law_bag_here", "_law_most"] spPay := by
  have sc := sc__law_payload
  refine F.ok sc (fun vs H Q E h => ?_) (fun cdv A outer s H vs Q E hr h => ?_)
  · obtain ⟨b, m, rfl, _⟩ := h
    rfl
  · obtain ⟨b, m, rfl, hB, m0, m1, q⟩ := h
    refine ⟨_, (pss_one (ps_ret (pe_callC c__law_bits hr (by rfl) (pa_cons (pv 0) (pa_cons (pe_op op_add pe_int (pe_callC c__law_pick hr (by rfl) (pa_cons (pv 0) (pa_cons (pv 1) pa_nil)))) pa_nil))))), ?_⟩
    refine ⟨_, rfl, _, rfl, _, rfl, b, m, rfl, hB, m0, by omega, fun H1 d mv1 hB1 d0 d1 => ?_⟩
    refine ⟨_, _, rfl, rfl, b, 1 + d, rfl, hB1, by omega, by omega, fun H2 p ns mv2 hB2 np ep hb hl => ?_⟩
    exact q H2 p ns (mv1.trans mv2) hB2 (mv1.none (hB1.ne np) np) ep hb (by omega) (by omega)
/-! ### a reader, and the law's own state beside it -/
theorem rd_new {C r dx l0 : Addr} {H : Hp} (nr : H r = none) (nd : H dx = none) (nl0 : upd (upd H dx (.own r)) r (.ins C dx []) l0 = none) :
    Same H (upd (upd (upd (upd H dx (.own r)) r (.ins C dx [])) l0 (.lst [])) r (.ins C dx (rdF l0 .non 0))) ∧ RdP C r l0 r ⟨[], -1, 0⟩ (upd (upd (upd (upd H dx (.own r)) r (.ins C dx [])) l0 (.lst [])) r (.ins C dx (rdF l0 .non 0))) ∧ H l0 = none ∧ l0 ≠ r := by
  have nr0 : l0 ≠ r := by
    intro z
    rw [z, upd_same] at nl0
    cases nl0
  have n0 : H l0 = none := by
    rw [upd_ne nr0] at nl0
    by_cases y : l0 = dx
    · rw [y, upd_same] at nl0
      cases nl0
    · rwa [upd_ne y] at nl0
  refine ⟨fun a o e => ?_, ⟨⟨⟨dx, upd_same⟩, ?_, fun z => absurd z (by decide)⟩, ⟨bits_nil, .inl rfl⟩, fun _ => rfl⟩, n0, nr0⟩
  · rw [upd_ne (ne_of_none e nr), upd_ne (ne_of_none e n0), upd_ne (ne_of_none e nr), upd_ne (ne_of_none e nd)]
    exact e
  · rw [upd_ne nr0, upd_same]
    rfl
theorem RdP.nd {C r l bh d : Addr} {S : LS} {H : Hp} {kvs : List (Key × V)} (h : RdP C r l bh S H) (e : H d = some (.dK kvs)) : d ∉ [r, l, bh] := fun z => by
  obtain ⟨⟨⟨dx, e1⟩, e2, e3⟩, e4, e5⟩ := h
  rcases in3 z with y | y | y
  · rw [← y, e] at e1
    cases e1
  · rw [← y, e] at e2
    cases e2
  · by_cases w : S.en < 0
    · rw [← e5 w, ← y, e] at e1
      cases e1
    · have := (e3 (by omega)).1
      rw [← y, e] at this
      cases this
structure RX where
  r : Addr
  l : Addr
  bh : Addr
  d : Addr
  S : LS
theorem in4 {a r l b d : Addr} (h : a ∈ [r, l, b, d]) : a ∈ [r, l, b] ∨ a = d := by
  rcases List.mem_cons.mp h with z | h
  · exact .inl (z ▸ .head _)
  rcases List.mem_cons.mp h with z | h
  · exact .inl (z ▸ .tail _ (.head _))
  rcases List.mem_cons.mp h with z | h
  · exact .inl (z ▸ .tail _ (.tail _ (.head _)))
  · exact .inr (List.mem_singleton.mp h)
theorem in43 {a r l b d : Addr} (h : a ∈ [r, l, b]) : a ∈ [r, l, b, d] := by
  rcases in3 h with rfl | rfl | rfl
  · exact .head _
  · exact .tail _ (.head _)
  · exact .tail _ (.tail _ (.head _))
def tXY (C : Addr) (x : RX) (kvs : List (Key × V)) : Th := ⟨[x.r, x.l, x.bh, x.d], fun H => RdP C x.r x.l x.bh x.S H ∧ H x.d = some (.dK kvs), fun H H' k h => ⟨h.1.loc (fun a ha => k a (in43 ha)), k x.d (.tail _ (.tail _ (.tail _ (.head _)))) _ h.2⟩, fun H h a ha => by
  rcases in4 ha with ha | rfl
  · exact (tRd C x.r x.l x.bh x.S).al H h.1 a ha
  · exact ⟨_, h.2, trivial⟩⟩
abbrev tX (C : Addr) (x : RX) : Th := tXY C x (stD x.S)
theorem map_set_same {α β : Type} {R : List α} {j : Nat} {x x' : α} {f : α → β} (h : R[j]? = some x) (e : f x' = f x) : (R.set j x').map f = R.map f := by
  rw [List.map_set, e]
  apply List.ext_getElem?
  intro i
  rw [List.getElem?_set]
  by_cases z : j = i
  · subst z
    rw [if_pos rfl, List.getElem?_map, h]
    have hl : j < (R.map f).length := by
      rw [List.length_map]
      exact (List.getElem?_eq_some_iff.mp h).1
    rw [if_pos hl]
    rfl
  · rw [if_neg z]
theorem judge_len {ns p : List Int} (h : judge ns = some p) : p.length ≤ 256 := by
  unfold judge at h
  split at h
  · cases h
  · split at h
    · rename_i c
      cases h
      rw [List.length_take]
      omega
    · cases h
theorem hstep_len {S : LS} {b : Int} {p : List Int} (h : (hstep S b).2 = some p) : p.length ≤ 256 := by
  unfold hstep at h
  split at h
  · split at h
    · cases h
    · split at h
      · cases h
      · rename_i q e
        cases h
        exact judge_len e
  · split at h <;> cases h
theorem hall_rows (S : LS) (bs : List Int) : ∀ i, i ≤ bs.length → ∀ r ∈ (hall S (bs.take i)).2, r.length ≤ 256
  | 0, _ => fun r h => absurd h List.not_mem_nil
  | i + 1, h => fun r hr => by
    have hi : i < bs.length := h
    rw [hall_more (List.getElem?_eq_getElem hi)] at hr
    rcases List.mem_append.mp hr with hr | hr
    · exact hall_rows S bs i (by omega) r hr
    · exact hstep_len (Option.mem_toList.mp hr)
theorem hall_dn (S : LS) {bs : List Int} (h : bs.length ≤ 9000) (n : Nat) : Dn (n + 3) (dRows (hall S bs).2) := by
  have h1 := hall_len S bs bs.length (Nat.le_refl _)
  have h2 := hall_rows S bs bs.length (Nat.le_refl _)
  rw [List.take_length] at h1 h2
  exact dn_rows (by omega) (fun r hr => Nat.le_trans (h2 r hr) (by decide)) n
theorem hall_fin {S : LS} {bs : List Int} (h : S.Ok) (hb : Bits bs) : (hall S bs).1.Ok ∧ (hall S bs).1.seen.length = S.seen.length + bs.length := by
  have h1 := hall_ok h hb bs.length (Nat.le_refl _)
  have h2 := hall_seen S bs bs.length (Nat.le_refl _)
  rw [List.take_length] at h1 h2
  exact ⟨h1, by rw [h2, List.length_append]⟩
theorem fl_len {sg : List Int} (hb : Bits sg) : (frameL sg).length ≤ 2 * sg.length + 48 ∧ Bits (frameL sg) := by
  have ok := stuff_ok (frame_bits hb)
  have hst := ok.len
  rw [List.length_append, seal_len] at hst
  refine ⟨?_, bits_app (bits_app mark_bits ok.bits) mark_bits⟩
  show (markL ++ stuffL (sg ++ sealL sg) ++ markL).length ≤ _
  rw [List.length_append, List.length_append]
  show 8 + (stR (sg ++ sealL sg)).1.length + 8 ≤ _
  omega
theorem x_d4 {x : RX} : x.d ∈ [x.r, x.l, x.bh, x.d] := .tail _ (.tail _ (.tail _ (.head _)))
section
variable {T0 : List (Addr × Str)} {Ts : List Th} {H H' : Hp} {C : Addr} {x : RX} {kvs kvs' : List (Key × V)} {S2 : LS} {l2 bh2 pl : Addr} {ps : List Addr} {rows : List (List Int)} {i : Nat}
/-- a reader took bits, and told rows -/
theorem Hs.took (h : Hs T0 Ts H) (hi : Ts[i]? = some (tXY C x kvs)) (mv : MvF [x.r, x.bh] H H') (hft : ∀ p ∈ [x.r, l2, bh2], p ∈ [x.r, x.l, x.bh] ∨ H p = none) (rd : RdP C x.r l2 bh2 S2 H') (epl : H' pl = some (.lst (ps.map V.ref))) (hrows : RowsAt H' ps rows) (hnew : ∀ p ∈ pl :: ps, H p = none ∧ p ∉ [x.r, l2, bh2]) (hnin : pl ∉ ps) :
    Hs T0 (tRows pl ps rows :: Ts.set i (tXY C ⟨x.r, l2, bh2, x.d, S2⟩ kvs)) H' := by
  obtain ⟨hrd, hdd⟩ : (tXY C x kvs).P H := h.get i hi
  have hdn := hrd.nd hdd
  refine h.opNew (N := tRows pl ps rows) (T' := tXY C ⟨x.r, l2, bh2, x.d, S2⟩ kvs) i hi mv (fun p hp => by
    rcases in2 hp with rfl | rfl
    · exact .inl (.head _)
    · exact .inl (.tail _ (.tail _ (.head _)))) ⟨rd, mv.kp _ _ (fun z => hdn ?_) hdd⟩ (fun p hp => by
    rcases in4 hp with z | z
    · exact (hft p z).elim (fun z => .inl (in43 z)) .inr
    · exact .inl (z ▸ x_d4)) ⟨epl, hrows, hnin⟩ (fun p hp => by
    refine ⟨(hnew p hp).1, fun z => ?_⟩
    rcases in4 z with z | z
    · exact (hnew p hp).2 z
    · have := (hnew p hp).1
      rw [show p = x.d from z, hdd] at this
      cases this)
  rcases in2 z with z | z
  · exact z ▸ .head _
  · exact z ▸ .tail _ (.tail _ (.head _))
/-- the law's own state was written -/
theorem Hs.dput (h : Hs T0 Ts H) (hi : Ts[i]? = some (tXY C x kvs)) (mv : Mv x.d H H') (ed : H' x.d = some (.dK kvs')) : Hs T0 (Ts.set i (tXY C x kvs')) H' := by
  obtain ⟨hrd, hdd⟩ : (tXY C x kvs).P H := h.get i hi
  exact h.op (F := [x.d]) (T' := tXY C x kvs') i hi (.mv mv ed (.head _)) (fun p hp => by rw [in1 hp]; exact .inl x_d4) ⟨hrd.loc (fun p hp o e => mv p o (fun z => hrd.nd hdd (z ▸ hp)) e), ed⟩ (fun p hp => .inl hp)
/-- .. and rows were told -/
theorem Hs.heard (h : Hs T0 Ts H) (hi : Ts[i]? = some (tXY C x kvs)) (mv : Mv x.d H H') (ed : H' x.d = some (.dK kvs')) (epl : H' pl = some (.lst (ps.map V.ref))) (hrows : RowsAt H' ps rows) (hnew : ∀ p ∈ pl :: ps, H p = none) (hnin : pl ∉ ps) :
    Hs T0 (tRows pl ps rows :: Ts.set i (tXY C x kvs')) H' := by
  obtain ⟨hrd, hdd⟩ : (tXY C x kvs).P H := h.get i hi
  exact h.opNew (F := [x.d]) (N := tRows pl ps rows) (T' := tXY C x kvs') i hi (.mv mv ed (.head _)) (fun p hp => by rw [in1 hp]; exact .inl x_d4) ⟨hrd.loc (fun p hp o e => mv p o (fun z => hrd.nd hdd (z ▸ hp)) e), ed⟩ (fun p hp => .inl hp) ⟨epl, hrows, hnin⟩ (fun p hp => ⟨hnew p hp, fun z => (tXY C x kvs).live ⟨hrd, hdd⟩ z (hnew p hp)⟩)
/-- a reader that has just been made, and a state -/
theorem Hs.begun {r l0 d : Addr} (h : Hs T0 (tO d (.dK (stD ⟨[], -1, 0⟩)) :: tRd C r l0 r ⟨[], -1, 0⟩ :: Ts) H) : Hs T0 (tX C ⟨r, l0, r, d, ⟨[], -1, 0⟩⟩ :: Ts) H :=
  h.merge (C := tX C ⟨r, l0, r, d, ⟨[], -1, 0⟩⟩) ⟨h.get 1 rfl, h.at 0 rfl⟩ (fun p hp => by
    rcases in4 hp with z | z
    · exact .inr z
    · exact .inl (z ▸ .head _))
/-- draws that tell a list of rows -/
theorem Hs.newRows {b : Addr × Addr} (h : Hs T0 (tB b :: Ts) H) (mv : Mv b.1 H H') (hB : Bag b H') (epl : H' pl = some (.lst (ps.map V.ref))) (hrows : RowsAt H' ps rows) (hnew : ∀ p ∈ pl :: ps, H p = none) (hnin : pl ∉ ps) : Hs T0 (tB b :: tRows pl ps rows :: Ts) H' := by
  have h2 : Hs T0 (tRows pl ps rows :: tB b :: Ts) H' := h.opNew (T := tB b) (T' := tB b) (N := tRows pl ps rows) 0 rfl (mvf_bag mv hB) (fun a ha => .inl ha) hB (fun a ha => .inl ha) ⟨epl, hrows, hnin⟩ (fun p hp => ⟨hnew p hp, fun z => (tB b).live h.bag z (hnew p hp)⟩)
  exact h2.swap
/-- a row more -/
theorem Hs.rowApp {p : Addr} {r : List Int} (h : Hs T0 (tL p (r.map V.int) :: tRows pl ps rows :: Ts) H) : Hs T0 (tRows pl (ps ++ [p]) (rows ++ [r]) :: Ts) (upd H pl (.lst (ps.map V.ref ++ [.ref p]))) := by
  obtain ⟨e1, e2, e3⟩ := h.get 1 rfl
  have npl : pl ≠ p := h.ne 1 0 rfl rfl (.head _) (.head _)
  have nin : pl ∉ ps ++ [p] := fun z => (List.mem_append.mp z).elim e3 (fun z => npl (in1 z))
  have h2 : Hs T0 (tRowsG pl (ps.map V.ref) (ps ++ [p]) (rows ++ [r]) :: Ts) H := h.merge (C := tRowsG pl (ps.map V.ref) (ps ++ [p]) (rows ++ [r])) ⟨e1, RowsAt.snoc (h.at 0 rfl) e2, nin⟩ (fun q hq => by
    rcases List.mem_cons.mp hq with rfl | hq
    · exact .inr (.head _)
    · rcases List.mem_append.mp hq with hq | hq
      · exact .inr (.tail _ hq)
      · exact .inl hq)
  have em : ps.map V.ref ++ [V.ref p] = (ps ++ [p]).map V.ref := by rw [List.map_append]; rfl
  rw [em]
  refine h2.op (F := [pl]) (T' := tRows pl (ps ++ [p]) (rows ++ [r])) 0 rfl ((MvF.refl _ _).upd (.head _)) (fun a ha => by rw [in1 ha]; exact .inl (.head _)) ⟨upd_same, RowsAt.loc (fun q hq o e => by rw [upd_ne (fun z : q = pl => nin (by rw [← z]; exact hq))]; exact e) (h2.get 0 rfl).2.1, nin⟩ (fun a ha => .inl ha)
end
theorem rep1 (d : Int) : ∀ m : Nat, (List.replicate m [V.int d]).flatten = (List.replicate m d).map V.int
  | 0 => rfl
  | m + 1 => by
    rw [List.replicate_succ, List.flatten_cons, rep1 d m, List.replicate_succ]
    rfl
theorem sc__law_joined : FnScope ["_law_bag_here", "_law_rows", "_law_found", "_law_begun", "_law_row", "_law_frame_here", "_law_way"] ["_law_bag_here", "_law_rows"] (defScope s__law_joined) := ⟨rfl, rfl, rfl, by decide +kernel, rfl, by decide +kernel, by decide +kernel⟩
/-! ### streams of frames -/
inductive Jo : List (List Int) → List Int → Prop
  | start (c : Nat) (h : c ≤ 11) : Jo [] (List.replicate c 1)
  | full {rows : List (List Int)} {s : List Int} (r : List Int) (h : Jo rows s) : Jo (rows ++ [r]) (s ++ frameL r)
  | one {rows : List (List Int)} {s : List Int} (r : List Int) (h : Jo rows s) (n : 0 < rows.length) : Jo (rows ++ [r]) (s ++ (frameL r).drop 8)
  | two {rows : List (List Int)} {s : List Int} (r : List Int) (h : Jo rows s) (n : 0 < rows.length) : Jo (rows ++ [r]) (s ++ (frameL r).drop 1)
  | marks {rows : List (List Int)} {s : List Int} (r : List Int) (m : Nat) (hm : m ≤ 2) (h : Jo rows s) (n : 0 < rows.length) : Jo (rows ++ [r]) (s ++ (List.replicate m markL).flatten ++ frameL r)
theorem marks_ok (m : Nat) : Bits (List.replicate m markL).flatten ∧ ((List.replicate m markL).flatten).length = 8 * m := by
  refine ⟨fun z hz => ?_, ?_⟩
  · obtain ⟨l, hl, hz⟩ := List.mem_flatten.mp hz
    rw [List.eq_of_mem_replicate hl] at hz
    exact mark_bits z hz
  · rw [List.length_flatten, List.map_replicate, List.sum_replicate_nat]
    show m * 8 = 8 * m
    omega
theorem Jo.ok {rows : List (List Int)} {s : List Int} (h : Jo rows s) (hr : ∀ r ∈ rows, Bits r ∧ r.length ≤ 256) : Bits s ∧ s.length ≤ 11 + rows.length * 600 := by
  have key : ∀ {rows : List (List Int)} {s t : List Int} {r : List Int}, (Bits s ∧ s.length ≤ 11 + rows.length * 600) → Bits t → t.length ≤ 600 → Bits (s ++ t) ∧ (s ++ t).length ≤ 11 + (rows ++ [r]).length * 600 := by
    intro rows s t r ih hb hl
    refine ⟨bits_app ih.1 hb, ?_⟩
    rw [List.length_append, List.length_append]
    show s.length + t.length ≤ 11 + (rows.length + 1) * 600
    omega
  have last : ∀ {rows : List (List Int)} {r : List Int}, (∀ x ∈ rows ++ [r], Bits x ∧ x.length ≤ 256) → Bits (frameL r) ∧ (frameL r).length ≤ 560 := by
    intro rows r h
    have h := h r (List.mem_append_right _ (.head _))
    have := fl_len h.1
    exact ⟨this.2, by omega⟩
  have pre : ∀ {rows : List (List Int)} {r : List Int}, (∀ x ∈ rows ++ [r], Bits x ∧ x.length ≤ 256) → ∀ x ∈ rows, Bits x ∧ x.length ≤ 256 := fun h x hx => h x (List.mem_append_left _ hx)
  induction h with
  | start c hc =>
    refine ⟨fun z hz => .inr (List.eq_of_mem_replicate hz), ?_⟩
    rw [List.length_replicate]
    omega
  | full r h ih => exact key (ih (pre hr)) (last hr).1 (by have := (last hr).2; omega)
  | one r h n ih => exact key (ih (pre hr)) (bits_drop (last hr).1 _) (by have := (last hr).2; rw [List.length_drop]; omega)
  | two r h n ih => exact key (ih (pre hr)) (bits_drop (last hr).1 _) (by have := (last hr).2; rw [List.length_drop]; omega)
  | marks r m hm h n ih =>
    rw [List.append_assoc]
    have := marks_ok m
    exact key (ih (pre hr)) (bits_app this.1 (last hr).1) (by have := (last hr).2; rw [List.length_append]; omega)
def Strm (rows : List (List Int)) (ns : List Int) : Prop := ∃ s t, Jo rows s ∧ (t = [] ∨ t = markL.drop 1) ∧ ns = s ++ t
theorem Strm.ok {rows : List (List Int)} {ns : List Int} (h : Strm rows ns) (hr : ∀ r ∈ rows, Bits r ∧ r.length ≤ 256) : Bits ns ∧ ns.length ≤ 18 + rows.length * 600 := by
  obtain ⟨s, t, h, ht, rfl⟩ := h
  have := h.ok hr
  have h2 : Bits t ∧ t.length ≤ 7 := by
    rcases ht with rfl | rfl
    · exact ⟨bits_nil, by decide⟩
    · exact ⟨bits_drop mark_bits _, by decide⟩
  refine ⟨bits_app this.1 h2.1, ?_⟩
  rw [List.length_append]
  omega
def spJoined (K : PySem.W.Frag) : Sp := fun vs H Q _ => ∃ (b : Addr × Addr) (pr : Addr) (ps : List Addr) (rows : List (List Int)), vs = [.ref b.1, .ref pr] ∧ Bag b H ∧ pr ≠ b.1 ∧ H pr = some (.lst (ps.map V.ref)) ∧ RowsAt H ps rows ∧ (∀ p ∈ ps, p ≠ b.1) ∧ rows.length ≤ 5 ∧ (∀ r ∈ rows, Bits r ∧ r.length ≤ 256) ∧
  ∀ (H' : Hp) (p : Addr) (ns : List Int), Mv b.1 H H' → Bag b H' → H p = none → H' p = some (.lst (ns.map V.int)) → Strm rows ns → Q (.ref p) H'
theorem ok__law_joined {f : Addr} {fd : FuncData} {k : Nat} (F : Fun K "_law_joined" "_law_joined" s__law_joined f fd) (c__law_pick : Cal P w K mg base k "_law_pick" ["_law_bag_here", "_law_top"] spPick) (c__law_frame : Cal P w K mg base k "_law_frame" ["_law_signs"] (spLfr K)) (c__law_mark : Cal P w K mg base k "_law_mark" [] spMark) : FnOk P w K mg base CX0 (k + 1) f fd ["_law_bag_here", "_law_rows"] (spJoined K) := by
  have sc := sc__law_joined
  refine F.ok sc (fun vs H Q E h => ?_) (fun cdv A outer s H vs Q E hr h => ?_)
  · obtain ⟨b, pr, ps, rows, rfl, _⟩ := h
    rfl
  · obtain ⟨b, pr, ps, rows, rfl, hB, npr, epr, hrows, hpb, hrl, hrb, q⟩ := h
    refine ⟨_, (pss_cons (ps_set (i := 2) sc.nd rfl (.inl rfl) (pe_op op_rep (pe_lst (pa_cons pe_int pa_nil)) (pe_callC c__law_pick hr (by rfl) (pa_cons (pv 0) (pa_cons pe_int pa_nil)))))
 (pss_cons (ps_set (i := 3) sc.nd rfl (.inl rfl) pe_bl)
 (pss_cons (ps_for PassesOwn.never rfl (pi_listK K rfl (pv 1)) (pg_name (i := 4) sc.nd rfl (.inl rfl))
  (pss_cons (ps_set (i := 5) sc.nd rfl (.inl rfl) (pe_callC c__law_frame hr (by rfl) (pa_cons (pv 4) pa_nil)))
 (pss_cons (ps_set (i := 6) sc.nd rfl (.inl rfl) (pe_callC c__law_pick hr (by rfl) (pa_cons (pv 0) (pa_cons pe_int pa_nil))))
 (pss_cons (ps_if (PW.pt (pw_or (pt_not (pt_val (pv 3))) (pw_or1 (pt_cmpR op_eq (pv 6) pe_int (nomark _)))))
  (pss_one (ps_set (i := 2) sc.nd rfl (.inl rfl) (pe_op op_cat (pv 2) (pv 5))))
  (pss_one (ps_if (pt_cmpR op_eq (pv 6) pe_int (nomark _))
  (pss_one (ps_set (i := 2) sc.nd rfl (.inl rfl) (pe_op op_cat (pv 2) (pe_slice (sl_listK K rfl) (pv 5) (po_some pe_int) po_none))))
  (pss_one (ps_if (pt_cmpR op_eq (pv 6) pe_int (nomark _))
  (pss_one (ps_set (i := 2) sc.nd rfl (.inl rfl) (pe_op op_cat (pv 2) (pe_slice (sl_listK K rfl) (pv 5) (po_some pe_int) po_none))))
  (pss_one (ps_set (i := 2) sc.nd rfl (.inl rfl) (pe_op op_cat (pe_op op_cat (pv 2) (pe_op op_rep (pe_callC0 c__law_mark hr (by rfl)) (pe_callC c__law_pick hr (by rfl) (pa_cons (pv 0) (pa_cons pe_int pa_nil))))) (pv 5)))))))))
 (pss_one (ps_set (i := 3) sc.nd rfl (.inl rfl) pe_bl))))))
 (pss_one (ps_ret (pe_op op_cat (pv 2) (pe_slice (sl_listK K rfl) (pe_slice (sl_listK K rfl) (pe_callC0 c__law_mark hr (by rfl)) (po_some pe_int) po_none) po_none (po_some (pe_op op_mul pe_int (pe_callC c__law_pick hr (by rfl) (pa_cons (pv 0) (pa_cons pe_int pa_nil)))))))))))), ?_⟩
    refine ⟨(by show 1 ≤ sizeLine; decide), fun p1 n1 => ?_⟩
    have g1 := (SH.nil hB).new (o := .lst [.int 1]) n1
    have mv1 : Mv b.1 H _ := .of (same_upd (o := .lst [.int 1]) n1)
    refine ⟨_, rfl, b, 12, rfl, g1.bag, by decide, by decide, fun H2 c mv2 hB2 c0 c1 => ?_⟩
    have g2 := g1.mv mv2 hB2
    have mv12 := mv1.trans mv2
    obtain ⟨cn, rfl⟩ : ∃ cn : Nat, c = (cn : Int) := ⟨c.toNat, by omega⟩
    refine ⟨p1, (cn : Int), _, rfl, rfl, g2.get (.head _), by omega, by omega, ?_, fun p3 n3 => ?_⟩
    · show 1 * (cn : Int).toNat ≤ sizeLine
      exact sz4 (by omega)
    rw [rep1, show ((cn : Int)).toNat = cn from Int.toNat_natCast cn]
    have g3 := g2.new (o := .lst ((List.replicate cn 1).map V.int)) n3
    have mv3 := mv12.trans (.of (same_upd (o := .lst ((List.replicate cn 1).map V.int)) n3))
    have f3 : H p3 = none := mv12.none (hB2.ne n3) n3
    have alive : ∀ {x : Addr}, H x = none → x ≠ b.1 := fun n => hB.ne n
    refine ⟨_, rfl, pr, rfl, ⟨_, SqL.of (mv3 _ _ npr epr)⟩, for_list (K := K) (a := pr) (xs := ps.map V.ref) (fun i σ H' => ∃ (pf : Addr) (s : List Int) (y4 y5 y6 : Option V), σ = [some (.ref b.1), some (.ref pr), some (.ref pf), some (.bl (decide (0 < i))), y4, y5, y6] ∧ Mv b.1 H H' ∧ Bag b H' ∧ H pf = none ∧ H' pf = some (.lst (s.map V.int)) ∧ Jo (rows.take i) s)
      ⟨p3, _, none, none, none, rfl, mv3, g3.bag, f3, upd_same, .start cn (by omega)⟩ (fun i σ H' _ h => ?_) ?_ ?_⟩
    · obtain ⟨pf, s, y4, y5, y6, _, mv, _⟩ := h
      exact SqL.of (mv _ _ npr epr)
    · rintro i x σ H1 hx ⟨pf, s, y4, y5, y6, rfl, mv1, hB1, fpf, epf, hjo⟩
      obtain ⟨p, hp, rfl⟩ : ∃ p, ps[i]? = some p ∧ x = .ref p := by
        rw [List.getElem?_map] at hx
        cases e : ps[i]? with
        | none => rw [e] at hx; cases hx
        | some z => rw [e] at hx; exact ⟨z, rfl, (Option.some.inj hx).symm⟩
      obtain ⟨r, hr1, ep⟩ := RowsAt.at hrows hp
      have hil : i < rows.length := (List.getElem?_eq_some_iff.mp hr1).1
      have hrm := hrb r (List.mem_of_getElem? hr1)
      have hso := hjo.ok (fun z hz => hrb z (List.mem_of_mem_take hz))
      have htl : (rows.take i).length = i := by rw [List.length_take]; omega
      rw [htl] at hso
      have htm := take_more hr1
      refine ⟨_, rfl, p, r, rfl, mv1 _ _ (hpb p (List.mem_of_getElem? hp)) ep, by omega, hrm.1, fun H2 pg s2 n2 e2 => ?_⟩
      have g2 := (((SH.nil hB1).same s2).add (hB1.ne n2) (hB1.ne2 n2) e2)
      have npf : pf ≠ b.1 := alive fpf
      have mv2 := mv1.trans (.of s2)
      refine ⟨_, rfl, b, 4, rfl, g2.bag, by decide, by decide, fun H3 wy mv3' hB3 wy0 wy1 => ?_⟩
      have mv3 := mv2.trans mv3'
      have eg3 : H3 pg = some (.lst ((frameL r).map V.int)) := mv3' _ _ (hB1.ne n2) e2
      have ef3 : H3 pf = some (.lst (s.map V.int)) := mv3' _ _ npf (s2 _ _ epf)
      have hfl := fl_len hrm.1
      refine name_by ?_
      dsimp only
      refine if_by (J := fun σ1 H4 => ∃ (pf : Addr) (s : List Int) (y4 y5 y6 : Option V), σ1 = [some (.ref b.1), some (.ref pr), some (.ref pf), some (.bl (decide (0 < i))), y4, y5, y6] ∧ Mv b.1 H H4 ∧ Bag b H4 ∧ H pf = none ∧ H4 pf = some (.lst (s.map V.int)) ∧ Jo (rows.take (i + 1)) s) ?_ (fun rest => ?_)
      · rintro σ1 H4 ⟨pf, s, y4, y5, y6, rfl, mv4, hB4, fpf, epf, hjo⟩
        exact ⟨pf, s, _, _, _, rfl, mv4, hB4, fpf, epf, hjo⟩
      · -- two lists put together
        have cat : ∀ {H4 : Hp} {pa pc : Addr} {u v : List Int} {Q' : VK}, Mv b.1 H H4 → Bag b H4 → H4 pa = some (.lst (u.map V.int)) → H4 pc = some (.lst (v.map V.int)) → u.length + v.length ≤ 100000 → (∀ (H5 : Hp) (p5 : Addr), Same H4 H5 → H p5 = none → H4 p5 = none → H5 p5 = some (.lst ((u ++ v).map V.int)) → Q' (.ref p5) H5) →
            rCat (.ref pa) (.ref pc) H4 Q' := by
          intro H4 pa pc u v Q' m4 b4 ea ec hl hq
          refine ⟨pa, pc, _, _, rfl, rfl, ea, ec, ?_, fun p5 n5 => ?_⟩
          · rw [List.length_map, List.length_map]
            exact sz4 hl
          · rw [← List.map_append]
            exact hq _ p5 (same_upd n5) (m4.none (b4.ne n5) n5) n5 upd_same
        have fin : ∀ {H5 : Hp} {p5 : Addr} {u : List Int} {y4 y5 y6 : Option V}, Mv b.1 H H5 → Bag b H5 → H p5 = none → H5 p5 = some (.lst (u.map V.int)) → Jo (rows.take i ++ [r]) u → _ := fun {H5 p5 u y4 y5 y6} m5 b5 n5 e5 j5 => rest [some (.ref b.1), some (.ref pr), some (.ref p5), some (.bl (decide (0 < i))), y4, y5, y6] H5 ⟨p5, u, _, _, _, rfl, m5, b5, n5, e5, by rw [htm]; exact j5⟩
        have tl : ∀ d : Nat, ((frameL r).drop d).length ≤ 560 := fun d => by rw [List.length_drop]; omega
        by_cases h0 : 0 < i
        · rw [decide_eq_true h0] at rest fin ⊢
          have hn0 : 0 < (rows.take i).length := by omega
          refine ⟨_, rfl, _, rfl, iteF ?_⟩
          refine ⟨_, rfl, rfl, _, rfl, ite2 (fun e => ?_) (fun e => ?_)⟩
          · refine ⟨_, rfl, _, rfl, cat mv3 hB3 ef3 eg3 (by omega) (fun H5 p5 s5 f5 n5 e5 => fin (mv3.trans (.of s5)) (hB3.same s5) f5 e5 (.full r hjo))⟩
          · refine ⟨_, rfl, rfl, _, rfl, ite2 (fun e => ?_) (fun e => ?_)⟩
            · refine ⟨_, rfl, _, rfl, 8, rfl, pg, _, rfl, SqL.of eg3, fun p4 n4 => ?_⟩
              rw [show (8 : Int) = ((8 : Nat) : Int) from rfl, cut_from_n, ← List.map_drop]
              have s4 := same_upd (o := .lst (((frameL r).drop 8).map V.int)) n4
              exact cat (mv3.trans (.of s4)) (hB3.same s4) (s4 _ _ ef3) upd_same (by have := tl 8; omega) (fun H5 p5 s5 f5 n5 e5 => fin ((mv3.trans (.of s4)).trans (.of s5)) ((hB3.same s4).same s5) f5 e5 (.one r hjo hn0))
            · refine ⟨_, rfl, rfl, _, rfl, ite2 (fun e => ?_) (fun e => ?_)⟩
              · refine ⟨_, rfl, _, rfl, 1, rfl, pg, _, rfl, SqL.of eg3, fun p4 n4 => ?_⟩
                rw [show (1 : Int) = ((1 : Nat) : Int) from rfl, cut_from_n, ← List.map_drop]
                have s4 := same_upd (o := .lst (((frameL r).drop 1).map V.int)) n4
                exact cat (mv3.trans (.of s4)) (hB3.same s4) (s4 _ _ ef3) upd_same (by have := tl 1; omega) (fun H5 p5 s5 f5 n5 e5 => fin ((mv3.trans (.of s4)).trans (.of s5)) ((hB3.same s4).same s5) f5 e5 (.two r hjo hn0))
              · refine ⟨_, rfl, rfl, fun H4 pm s4 n4 e4 => ?_⟩
                have hB4 := hB3.same s4
                refine ⟨_, rfl, b, 3, rfl, hB4, by decide, by decide, fun H5 c mv5 hB5 c0 c1 => ?_⟩
                obtain ⟨cn, rfl⟩ : ∃ cn : Nat, c = (cn : Int) := ⟨c.toNat, by omega⟩
                have npm : pm ≠ b.1 := hB3.ne n4
                have npg : pg ≠ b.1 := hB1.ne n2
                have e5 := mv5 _ _ npm e4
                refine ⟨pm, (cn : Int), _, rfl, rfl, e5, by omega, by omega, ?_, fun p6 n6 => ?_⟩
                · show 8 * (cn : Int).toNat ≤ sizeLine
                  exact sz4 (by omega)
                have em : (List.replicate (cn : Int).toNat (markL.map V.int)).flatten = ((List.replicate cn markL).flatten).map V.int := by
                  rw [List.map_flatten, List.map_replicate, Int.toNat_natCast]
                rw [em]
                have s6 := same_upd (o := .lst (((List.replicate cn markL).flatten).map V.int)) n6
                have mv6 : Mv b.1 H _ := ((mv3.trans (.of s4)).trans mv5).trans (.of s6)
                have hml := (marks_ok cn).2
                refine cat mv6 (hB5.same s6) (s6 _ _ (mv5 _ _ npf (s4 _ _ ef3))) upd_same (by omega) (fun H7 p7 s7 f7 n7 e7 => ?_)
                refine ⟨_, rfl, cat (mv6.trans (.of s7)) ((hB5.same s6).same s7) e7 (s7 _ _ (s6 _ _ (mv5 _ _ npg (s4 _ _ eg3)))) (by rw [List.length_append]; omega) (fun H8 p8 s8 f8 n8 e8 => fin ((mv6.trans (.of s7)).trans (.of s8)) (((hB5.same s6).same s7).same s8) f8 e8 (.marks r cn (by omega) hjo hn0))⟩
        · rw [decide_eq_false h0] at rest fin ⊢
          refine ⟨_, rfl, _, rfl, iteT (iteT ?_)⟩
          exact ⟨_, rfl, _, rfl, cat mv3 hB3 ef3 eg3 (by omega) (fun H5 p5 s5 f5 n5 e5 => fin (mv3.trans (.of s5)) (hB3.same s5) f5 e5 (.full r hjo))⟩
    · rintro σ H1 ⟨pf, s, y4, y5, y6, rfl, mv1, hB1, fpf, epf, hjo⟩
      have hlen : (ps.map V.ref).length = rows.length := by rw [List.length_map]; exact RowsAt.len hrows
      rw [hlen, List.take_length] at hjo
      have hso := hjo.ok hrb
      have npf : pf ≠ b.1 := alive fpf
      refine ⟨_, rfl, rfl, fun H2 pm s2 n2 e2 => ?_⟩
      refine ⟨1, rfl, pm, _, rfl, SqL.of e2, fun p3 n3 => ?_⟩
      have s3 := s2.trans (same_upd (o := .lst (cutV (markL.map V.int) (some 1) none)) n3)
      have hB3 := hB1.same s3
      have np3 : p3 ≠ b.1 := (hB1.same s2).ne n3
      refine ⟨_, rfl, b, 2, rfl, hB3, by decide, by decide, fun H4 c mv4 hB4 c0 c1 => ?_⟩
      have e4 := mv4 _ _ np3 (upd_same (H := H2) (o := .lst (cutV (markL.map V.int) (some 1) none)))
      refine ⟨_, _, rfl, rfl, .inl ⟨by decide, by decide⟩, _, rfl, p3, _, rfl, SqL.of e4, fun p5 n5 => ?_⟩
      have ht : ∃ t, (t = [] ∨ t = markL.drop 1) ∧ cutV (cutV (markL.map V.int) (some 1) none) none (some (7 * c)) = t.map V.int := by
        have hc : c = 0 ∨ c = 1 := by omega
        rcases hc with rfl | rfl
        · exact ⟨[], .inl rfl, rfl⟩
        · exact ⟨markL.drop 1, .inr rfl, rfl⟩
      obtain ⟨t, ht, et⟩ := ht
      rw [et]
      have htl : t.length ≤ 7 := by
        rcases ht with rfl | rfl <;> decide
      have s5 := same_upd (o := .lst (t.map V.int)) n5
      have mv5 : Mv b.1 H _ := ((mv1.trans (.of s3)).trans mv4).trans (.of s5)
      have hB5 := hB4.same s5
      refine ⟨pf, p5, _, _, rfl, rfl, s5 _ _ (mv4 _ _ npf (s3 _ _ epf)), upd_same, ?_, fun p6 n6 => ?_⟩
      · rw [List.length_map, List.length_map]
        exact sz4 (by omega)
      · rw [← List.map_append]
        exact q _ p6 (s ++ t) (mv5.trans (.of (same_upd n6))) (hB5.same (same_upd n6)) (mv5.none (hB5.ne n6) n6) upd_same ⟨s, t, hjo, ht, rfl⟩
theorem sc__law_cuts : FnScope ["_law_bag_here", "_law_signs", "_law_found", "_law_rest", "_law_k", "_law_at"] ["_law_bag_here", "_law_signs"] (defScope s__law_cuts) := ⟨rfl, rfl, rfl, by decide +kernel, rfl, by decide +kernel, by decide +kernel⟩
/-- the stream cut to pieces -/
def spCuts : Sp := fun vs H Q _ => ∃ (b : Addr × Addr) (a : Addr) (ns : List Int), vs = [.ref b.1, .ref a] ∧ Bag b H ∧ a ≠ b.1 ∧ H a = some (.lst (ns.map V.int)) ∧ ns.length ≤ 90000 ∧
  ∀ (H' : Hp) (pl : Addr) (ps : List Addr) (parts : List (List Int)), Mv b.1 H H' → Bag b H' → H' pl = some (.lst (ps.map V.ref)) → RowsAt H' ps parts → (∀ p ∈ pl :: ps, H p = none) → pl ∉ ps → parts.flatten = ns → parts.length ≤ 9 → Q (.ref pl) H'
theorem ok__law_cuts {f : Addr} {fd : FuncData} {k : Nat} (F : Fun K "_law_cuts" "_law_cuts" s__law_cuts f fd) (n_len : mg "len" = none) (n_list : mg "list" = none) (n_range : mg "range" = none) (c__law_pick : Cal P w K mg base k "_law_pick" ["_law_bag_here", "_law_top"] spPick) : FnOk P w K mg base CX0 (k + 1) f fd ["_law_bag_here", "_law_signs"] spCuts := by
  have sc := sc__law_cuts
  refine F.ok sc (fun vs H Q E h => ?_) (fun cdv A outer s H vs Q E hr h => ?_)
  · obtain ⟨b, a, ns, rfl, _⟩ := h
    rfl
  · obtain ⟨b, a, ns, rfl, hB, nab, ha, hl, q⟩ := h
    refine ⟨_, (pss_cons (ps_set (i := 2) sc.nd rfl (.inl rfl) (pe_lst pa_nil))
 (pss_cons (ps_set (i := 3) sc.nd rfl (.inl rfl) (pe_callTy (call_listK K rfl) (by rfl) n_list (by decide +kernel) (pa_cons (pv 1) pa_nil)))
 (pss_cons (ps_for PassesOwn.never rfl (pi_range1 (by rfl) n_range (pa_cons (pe_callC c__law_pick hr (by rfl) (pa_cons (pv 0) (pa_cons pe_int pa_nil))) pa_nil)) (pg_name (i := 4) sc.nd rfl (.inl rfl))
  (pss_cons (ps_set (i := 5) sc.nd rfl (.inl rfl) (pe_callC c__law_pick hr (by rfl) (pa_cons (pv 0) (pa_cons (pe_op op_add (pe_callB (call_lenK K rfl) (by rfl) n_len PySem.boot_len (pa_cons (pv 3) pa_nil)) pe_int) pa_nil))))
 (pss_cons (ps_expr (pe_bmK K rfl PySem.F.plainAttrs_list PySem.F.slot_list_append PySem.F.type_list_append mt_append (pv 2) (pa_cons (pe_slice (sl_listK K rfl) (pv 3) po_none (po_some (pv 5))) pa_nil)))
 (pss_one (ps_set (i := 3) sc.nd rfl (.inl rfl) (pe_slice (sl_listK K rfl) (pv 3) (po_some (pv 5)) po_none))))))
 (pss_one (ps_ret (pe_op op_cat (pv 2) (pe_lst (pa_cons (pv 3) pa_nil)))))))), ?_⟩
    refine ⟨Nat.zero_le _, fun pl npl => ?_⟩
    have s1 := same_upd (o := .lst []) npl
    refine ⟨_, rfl, a, _, rfl, .inl (SqL.of (s1 _ _ ha)), fun p0 n0 => ?_⟩
    have s2 := s1.trans (same_upd (o := .lst (ns.map V.int)) n0)
    have hB2 := hB.same s2
    have epl2 : upd (upd H pl (.lst [])) p0 (.lst (ns.map V.int)) pl = some (.lst []) := same_upd n0 _ _ upd_same
    refine ⟨_, rfl, b, 9, rfl, hB2, by decide, by decide, fun H3 c mv3' hB3 c0 c1 => ?_⟩
    have mv3 : Mv b.1 H H3 := (Mv.of s2).trans mv3'
    have nplb : pl ≠ b.1 := hB.ne npl
    have f0 : H p0 = none := s1.free n0
    have np0b : p0 ≠ b.1 := hB.ne f0
    obtain ⟨cn, rfl⟩ : ∃ cn : Nat, c = (cn : Int) := ⟨c.toNat, by omega⟩
    refine ⟨(cn : Int), rfl, by omega, by omega, ?_⟩
    rw [Int.toNat_natCast]
    refine for_range (lo := 0) (n := cn) (fun i σ H' => ∃ (pr : Addr) (ps : List Addr) (parts : List (List Int)) (rest : List Int) (y4 y5 : Option V), σ = [some (.ref b.1), some (.ref a), some (.ref pl), some (.ref pr), y4, y5] ∧ Mv b.1 H H' ∧ Bag b H' ∧ H' pl = some (.lst (ps.map V.ref)) ∧ RowsAt H' ps parts ∧ (∀ p ∈ pl :: ps, H p = none) ∧ pl ∉ ps ∧ H pr = none ∧ pr ≠ pl ∧ H' pr = some (.lst (rest.map V.int)) ∧ parts.flatten ++ rest = ns ∧ parts.length = i)
      ⟨p0, [], [], ns, none, none, rfl, mv3, hB3, mv3' _ _ nplb epl2, trivial, (fun p hp => by rw [in1 hp]; exact npl), List.not_mem_nil, f0, (ne_of_none upd_same n0).symm, mv3' _ _ np0b upd_same, rfl, rfl⟩ ?_ ?_
    · rintro i σ H1 hi ⟨pr, ps, parts, rest, y4, y5, rfl, mv1, hB1, epl, hrows, hnew, hnin, fpr, nprl, epr, hfl, hlen⟩
      have hrl : rest.length ≤ 90000 := by
        have := congrArg List.length hfl
        rw [List.length_append] at this
        omega
      refine ⟨_, rfl, _, rfl, pr, _, rfl, .inl (SqL.of epr), _, _, rfl, rfl, b, _, rfl, hB1, (by rw [List.length_map]; omega), (by rw [List.length_map]; omega), fun H2 c mv2' hB2 c0 c1 => ?_⟩
      obtain ⟨m, rfl⟩ : ∃ m : Nat, c = (m : Int) := ⟨c.toNat, by omega⟩
      have mv2 := mv1.trans mv2'
      have nb : ∀ p ∈ pl :: ps, p ≠ b.1 := fun p hp => hB.ne (hnew p hp)
      have npr : pr ≠ b.1 := hB.ne fpr
      have epl2 := mv2' _ _ (nb pl (.head _)) epl
      have epr2 := mv2' _ _ npr epr
      have hrows2 : RowsAt H2 ps parts := RowsAt.loc (fun p hp o e => mv2' _ _ (nb p (.tail _ hp)) e) hrows
      refine ⟨_, rfl, .inl ⟨rfl, _, SqL.of epl2⟩, _, rfl, _, rfl, m, rfl, pr, _, rfl, SqL.of epr2, fun p3 n3 => ?_⟩
      rw [cut_to_n, ← List.map_take]
      have s3 := same_upd (o := .lst ((rest.take m).map V.int)) n3
      have f3 : H p3 = none := mv2.none (hB2.ne n3) n3
      have n3l : pl ≠ p3 := ne_of_none epl2 n3
      refine ⟨pl, _, _, rfl, rfl, s3 _ _ epl2, ?_, ?_⟩
      · rw [List.length_map, RowsAt.len hrows]
        exact sz4l (by have : i < cn := hi; omega)
      have em : ps.map V.ref ++ [V.ref p3] = (ps ++ [p3]).map V.ref := by rw [List.map_append]; rfl
      rw [em]
      have kp : ∀ {p : Addr} {o : HO}, p ≠ pl → H2 p = some o → upd (upd H2 p3 (.lst ((rest.take m).map V.int))) pl (.lst ((ps ++ [p3]).map V.ref)) p = some o := fun n e => by
        rw [upd_ne n]
        exact s3 _ _ e
      have e43 : upd (upd H2 p3 (.lst ((rest.take m).map V.int))) pl (.lst ((ps ++ [p3]).map V.ref)) p3 = some (.lst ((rest.take m).map V.int)) := by rw [upd_ne n3l.symm, upd_same]
      have mv4 : Mv b.1 H (upd (upd H2 p3 (.lst ((rest.take m).map V.int))) pl (.lst ((ps ++ [p3]).map V.ref))) := fun p o n e => kp (ne_of_none e (hnew pl (.head _))) (mv2 _ _ n e)
      have hB4 : Bag b (upd (upd H2 p3 (.lst ((rest.take m).map V.int))) pl (.lst ((ps ++ [p3]).map V.ref))) := (hB2.same s3).upd (nb pl (.head _)) (hB.ne2 (hnew pl (.head _)))
      have al4 : ∀ x, upd (upd H2 p3 (.lst ((rest.take m).map V.int))) pl (.lst ((ps ++ [p3]).map V.ref)) x = none → H2 x = none := al_upd (al_same s3)
      have epl4 : upd (upd H2 p3 (.lst ((rest.take m).map V.int))) pl (.lst ((ps ++ [p3]).map V.ref)) pl = some (.lst ((ps ++ [p3]).map V.ref)) := upd_same
      have epr4 := kp nprl epr2
      have hrows4 : RowsAt (upd (upd H2 p3 (.lst ((rest.take m).map V.int))) pl (.lst ((ps ++ [p3]).map V.ref))) (ps ++ [p3]) (parts ++ [rest.take m]) := RowsAt.snoc e43 (RowsAt.loc (fun p hp o e => kp (fun z => hnin (z ▸ hp)) e) hrows2)
      generalize upd (upd H2 p3 (.lst ((rest.take m).map V.int))) pl (.lst ((ps ++ [p3]).map V.ref)) = H4 at mv4 hB4 al4 epl4 epr4 hrows4 ⊢
      refine ⟨_, rfl, _, rfl, m, rfl, pr, _, rfl, SqL.of epr4, fun p5 n5 => ?_⟩
      rw [cut_from_n, ← List.map_drop]
      have s5 := same_upd (o := .lst ((rest.drop m).map V.int)) n5
      refine ⟨p5, ps ++ [p3], parts ++ [rest.take m], rest.drop m, _, _, rfl, mv4.trans (.of s5), hB4.same s5, s5 _ _ epl4, RowsAt.loc (fun p hp o e => s5 _ _ e) hrows4, fun p hp => ?_, fun hp => ?_, mv4.none (hB4.ne n5) n5, (ne_of_none epl4 n5).symm, upd_same, ?_, ?_⟩
      · rcases List.mem_cons.mp hp with rfl | hp
        · exact hnew p (.head _)
        rcases List.mem_append.mp hp with hp | hp
        · exact hnew p (.tail _ hp)
        · rw [in1 hp]
          exact f3
      · rcases List.mem_append.mp hp with hp | hp
        · exact hnin hp
        · exact n3l (in1 hp)
      · rw [List.flatten_append, ← hfl]
        show parts.flatten ++ (rest.take m ++ []) ++ rest.drop m = _
        rw [List.append_nil, List.append_assoc, List.take_append_drop]
      · rw [List.length_append, hlen]
        rfl
    · rintro σ H1 ⟨pr, ps, parts, rest, y4, y5, rfl, mv1, hB1, epl, hrows, hnew, hnin, fpr, nprl, epr, hfl, hlen⟩
      refine ⟨_, rfl, _, rfl, (by show 1 ≤ sizeLine; decide), fun p2 n2 => ?_⟩
      have s2 := same_upd (o := .lst [.ref pr]) n2
      refine ⟨pl, p2, _, _, rfl, rfl, s2 _ _ epl, upd_same, ?_, fun p3 n3 => ?_⟩
      · rw [List.length_map, RowsAt.len hrows]
        exact sz4 (by show parts.length + 1 ≤ 100000; omega)
      have em : ps.map V.ref ++ [V.ref pr] = (ps ++ [pr]).map V.ref := by rw [List.map_append]; rfl
      rw [em]
      have s3 := s2.trans (same_upd (o := .lst ((ps ++ [pr]).map V.ref)) n3)
      have hB3 := hB1.same s3
      have f3 : H p3 = none := (mv1.trans (.of s2)).none ((hB1.same s2).ne n3) n3
      refine q _ p3 (ps ++ [pr]) (parts ++ [rest]) (mv1.trans (.of s3)) hB3 upd_same (RowsAt.loc (fun p hp o e => s3 _ _ e) (RowsAt.snoc epr hrows)) (fun p hp => ?_) (fun hp => ?_) ?_ ?_
      · rcases List.mem_cons.mp hp with rfl | hp
        · exact f3
        rcases List.mem_append.mp hp with hp | hp
        · exact hnew p (.tail _ hp)
        · rw [in1 hp]
          exact fpr
      · rcases List.mem_append.mp hp with hp | hp
        · exact RowsAt.al hrows p3 hp (by exact (Same.trans s2 (Same.refl _)).free n3)
        · exact ne_of_none (s2 _ _ epr) n3 (in1 hp).symm
      · rw [List.flatten_append]
        show parts.flatten ++ (rest ++ []) = ns
        rw [List.append_nil]
        exact hfl
      · rw [List.length_append, hlen]
        show cn + 1 ≤ 9
        omega
/-! ### stuffed, and back -/
def sto : Nat → List Int → List Int
  | _, [] => []
  | o, b :: r => if (if b = 1 then o + 1 else 0) = 5 then b :: 0 :: sto 0 r else b :: sto (if b = 1 then o + 1 else 0) r
theorem sto_fold : ∀ (r : List Int) (row : List Int) (o : Nat), (r.foldl stS (row, o)).1 = row ++ sto o r
  | [], row, o => (List.append_nil row).symm
  | b :: r, row, o => by
    show (r.foldl stS (stS (row, o) b)).1 = _
    by_cases h : (if b = 1 then o + 1 else 0) = 5
    · have e1 : stS (row, o) b = (row ++ [b] ++ [0], 0) := if_pos h
      have e2 : sto o (b :: r) = b :: 0 :: sto 0 r := if_pos h
      rw [e1, e2, sto_fold r]
      simp
    · have e1 : stS (row, o) b = (row ++ [b], if b = 1 then o + 1 else 0) := if_neg h
      have e2 : sto o (b :: r) = b :: sto (if b = 1 then o + 1 else 0) r := if_neg h
      rw [e1, e2, sto_fold r]
      simp
theorem sto_back : ∀ (r : List Int) {i o : Nat} {acc : List Int}, o < 5 → ust (sto o r) i acc o = .inr (acc ++ r)
  | [], i, o, acc, ho => by
    show (if o = 5 then Sum.inl i else Sum.inr acc : Nat ⊕ List Int) = _
    rw [if_neg (by omega), List.append_nil]
  | b :: r, i, o, acc, ho => by
    unfold sto
    by_cases h : (if b = 1 then o + 1 else 0) = 5
    · rw [if_pos h]
      show (if o < 5 then ust (0 :: sto 0 r) (i + 1) (acc ++ [b]) (if b = 1 then o + 1 else 0) else _) = _
      rw [if_pos ho, h]
      show (if 5 < 5 then _ else if (0 : Int) = 0 then ust (sto 0 r) (i + 1 + 1) (acc ++ [b]) 0 else _) = _
      rw [if_neg (by decide), if_pos rfl, sto_back r (by decide)]
      simp
    · rw [if_neg h]
      show (if o < 5 then ust (sto (if b = 1 then o + 1 else 0) r) (i + 1) (acc ++ [b]) (if b = 1 then o + 1 else 0) else _) = _
      rw [if_pos ho, sto_back r (by split at h <;> rename_i z <;> simp only [z, if_true, if_false] at h ⊢ <;> omega)]
      simp
theorem U_stuff (ns : List Int) : U (stuffL ns) = .inr ns := by
  have e : stuffL ns = sto 0 ns := by
    show (ns.foldl stS ([], 0)).1 = _
    rw [sto_fold]
    rfl
  unfold U
  rw [e, sto_back ns (by decide)]
  rfl
/-! ### streams of frames, heard -/
theorem tro_app0 {u : List Int} (h : tro u = 0) (v : List Int) : tro (u ++ v) = tro v := by
  have key : ∀ v : List Int, tro (u ++ v.reverse) = tro v.reverse := by
    intro v
    induction v with
    | nil =>
      rw [List.reverse_nil, List.append_nil, h]
      rfl
    | cons b r ih =>
      rw [List.reverse_cons, ← List.append_assoc, tro_snoc, tro_snoc, ih]
  have := key v.reverse
  rwa [List.reverse_reverse] at this
theorem tro_le (u : List Int) : tro u ≤ u.length := by
  unfold tro
  have := (List.takeWhile_sublist (fun z : Int => decide (z = 1)) (l := u.reverse)).length_le
  rwa [List.length_reverse] at this
/-- six ones at the end, and something ahead of them -/
theorem tro_six {x : List Int} (hb : Bits x) (h : tro x = 6) (hl : 7 ≤ x.length) : ∃ u, x = u ++ [0, 1, 1, 1, 1, 1, 1] := by
  have key : ∀ M : List Int, Bits M → (M.takeWhile (fun z => decide (z = 1))).length = 6 → 7 ≤ M.length → ∃ r, M = 1 :: 1 :: 1 :: 1 :: 1 :: 1 :: 0 :: r := by
    intro M hM h6 h7
    match M, h7 with
    | a :: b :: c :: d :: e :: f :: g :: r, _ =>
      have ha := hM a (.head _)
      have hb := hM b (.tail _ (.head _))
      have hc := hM c (.tail _ (.tail _ (.head _)))
      have hd := hM d (.tail _ (.tail _ (.tail _ (.head _))))
      have he := hM e (.tail _ (.tail _ (.tail _ (.tail _ (.head _)))))
      have hf := hM f (.tail _ (.tail _ (.tail _ (.tail _ (.tail _ (.head _))))))
      have hg := hM g (.tail _ (.tail _ (.tail _ (.tail _ (.tail _ (.tail _ (.head _)))))))
      rcases ha with rfl | rfl
      · simp at h6
      rcases hb with rfl | rfl
      · simp at h6
      rcases hc with rfl | rfl
      · simp at h6
      rcases hd with rfl | rfl
      · simp at h6
      rcases he with rfl | rfl
      · simp at h6
      rcases hf with rfl | rfl
      · simp at h6
      rcases hg with rfl | rfl
      · exact ⟨r, rfl⟩
      · exfalso
        simp at h6
  obtain ⟨r, hr⟩ := key x.reverse (fun z hz => hb z (List.mem_reverse.mp hz)) h (by rw [List.length_reverse]; exact hl)
  refine ⟨r.reverse, ?_⟩
  have := congrArg List.reverse hr
  rw [List.reverse_reverse] at this
  rw [this]
  simp
theorem tro_z (u : List Int) : tro (u ++ [0]) = 0 := by
  rw [tro_snoc]
  rfl
theorem tro7 (u : List Int) : tro (u ++ [0, 1, 1, 1, 1, 1, 1]) = 6 := by
  have e : u ++ [0, 1, 1, 1, 1, 1, 1] = (u ++ [0]) ++ [1, 1, 1, 1, 1, 1] := by rw [List.append_assoc]; rfl
  rw [e, tro_app0 (tro_z u)]
  decide
theorem mark_iff {x : List Int} {b : Int} (hx : Bits x) : lastOf (x ++ [b]) = markL ↔ b = 0 ∧ tro x = 6 ∧ 7 ≤ x.length := by
  have hl : (x ++ [b]).length = x.length + 1 := by rw [List.length_append]; rfl
  constructor
  · intro h
    have hlen := congrArg List.length h
    have h8 : 7 ≤ x.length := by
      unfold lastOf at hlen
      rw [List.length_drop, hl] at hlen
      have : markL.length = 8 := rfl
      omega
    have e : x ++ [b] = x.take (x.length - 7) ++ markL := by
      have h2 : (x ++ [b]).take (x.length - 7) ++ (x ++ [b]).drop (x.length - 7) = x ++ [b] := List.take_append_drop _ _
      unfold lastOf at h
      rw [hl, show x.length + 1 - 8 = x.length - 7 by omega] at h
      rw [h, List.take_append_of_le_length (by omega)] at h2
      exact h2.symm
    have e2 : x.take (x.length - 7) ++ markL = (x.take (x.length - 7) ++ [0, 1, 1, 1, 1, 1, 1]) ++ [0] := by
      rw [List.append_assoc]
      rfl
    rw [e2] at e
    have e3 := List.append_inj' e rfl
    refine ⟨?_, ?_, h8⟩
    · have := e3.2
      simp at this
      exact this
    · rw [e3.1]
      exact tro7 _
  · rintro ⟨rfl, h6, h7⟩
    obtain ⟨u, rfl⟩ := tro_six hx h6 h7
    unfold lastOf
    have e : u ++ [0, 1, 1, 1, 1, 1, 1] ++ [0] = u ++ markL := by rw [List.append_assoc]; rfl
    rw [e, List.length_append]
    show (u ++ markL).drop (u.length + 8 - 8) = markL
    rw [Nat.add_sub_cancel, List.drop_left]
/-- hearing one thing behind another -/
theorem hall_acc (bs : List Int) : ∀ (S : LS) (acc : List (List Int)), bs.foldl (fun T b => ((hstep T.1 b).1, T.2 ++ (hstep T.1 b).2.toList)) (S, acc) = ((hall S bs).1, acc ++ (hall S bs).2) := by
  induction bs with
  | nil =>
    intro S acc
    show (S, acc) = (S, acc ++ [])
    rw [List.append_nil]
  | cons b r ih =>
    intro S acc
    have e1 : hall S (b :: r) = ((hall (hstep S b).1 r).1, ([] ++ (hstep S b).2.toList) ++ (hall (hstep S b).1 r).2) := ih (hstep S b).1 ([] ++ (hstep S b).2.toList)
    rw [e1]
    show r.foldl _ ((hstep S b).1, acc ++ (hstep S b).2.toList) = _
    rw [ih]
    simp
theorem hall_app (S : LS) (u v : List Int) : hall S (u ++ v) = ((hall (hall S u).1 v).1, (hall S u).2 ++ (hall (hall S u).1 v).2) := by
  show (u ++ v).foldl _ (S, []) = _
  rw [List.foldl_append]
  exact hall_acc v (hall S u).1 (hall S u).2
theorem hall_one (S : LS) (b : Int) : hall S [b] = ((hstep S b).1, (hstep S b).2.toList) := rfl
/-- no mark comes -/
theorem hall_quiet (S : LS) : ∀ (t : List Int), (∀ (i : Nat) (b : Int), t[i]? = some b → ¬ lastOf (S.seen ++ t.take i ++ [b]) = markL) → (0 ≤ S.en → (S.seen.length : Int) + t.length - S.en ≤ 400) → hall S t = (⟨S.seen ++ t, S.en, S.hurt⟩, []) := by
  intro t hq hl
  have key : ∀ i, i ≤ t.length → hall S (t.take i) = (⟨S.seen ++ t.take i, S.en, S.hurt⟩, []) := by
    intro i
    induction i with
    | zero =>
      intro _
      show (S, []) = (⟨S.seen ++ [], S.en, S.hurt⟩, [])
      rw [List.append_nil]
    | succ i ih =>
      intro hi
      have hi' : i < t.length := hi
      have ih := ih (by omega)
      have hb : t[i]? = some t[i] := List.getElem?_eq_getElem hi'
      rw [hall_more hb, ih]
      have hm := hq i _ hb
      have e : hstep ⟨S.seen ++ t.take i, S.en, S.hurt⟩ t[i] = (⟨S.seen ++ t.take i ++ [t[i]], S.en, S.hurt⟩, none) := by
        unfold hstep
        rw [if_neg hm, if_neg]
        rintro ⟨h0, h4⟩
        have h0 : 0 ≤ S.en := h0
        have h4 : 400 < ((S.seen ++ t.take i ++ [t[i]]).length : Int) - S.en := h4
        have := hl h0
        have e2 : (S.seen ++ t.take i ++ [t[i]]).length = S.seen.length + i + 1 := by
          rw [List.length_append, List.length_append, List.length_take]
          show S.seen.length + min i t.length + 1 = _
          omega
        rw [e2] at h4
        omega
      rw [e, take_more hb, List.append_assoc]
      rfl
  have := key t.length (Nat.le_refl _)
  rwa [List.take_length] at this
theorem hall_q2 {S : LS} {t : List Int} (hb : Bits S.seen) (ht : Bits t) (h0 : tro S.seen = 0) (hq : ∀ i, i < t.length → tro (t.take i) ≤ 5) (hl : 0 ≤ S.en → (S.seen.length : Int) + t.length - S.en ≤ 400) : hall S t = (⟨S.seen ++ t, S.en, S.hurt⟩, []) := by
  refine hall_quiet S t (fun i b hi hm => ?_) hl
  have hil : i < t.length := (List.getElem?_eq_some_iff.mp hi).1
  have := ((mark_iff (bits_app hb (bits_take ht i))).mp hm).2.1
  rw [tro_app0 h0] at this
  have := hq i hil
  omega
/-- how a stream stands behind a mark -/
structure Bst (S : LS) : Prop where
  bits : Bits S.seen
  t0 : tro S.seen = 0
  en : S.en = S.seen.length
  h0 : S.hurt = 0
theorem six_take {i : Nat} (h : i < 7) : tro (([0, 1, 1, 1, 1, 1, 1] : List Int).take i) ≤ 5 := by
  match i, h with
  | 0, _ => decide
  | 1, _ => decide
  | 2, _ => decide
  | 3, _ => decide
  | 4, _ => decide
  | 5, _ => decide
  | 6, _ => decide
theorem bits7 : Bits [0, 1, 1, 1, 1, 1, 1] := fun z hz => by
  simp only [List.mem_cons, List.not_mem_nil, or_false] at hz
  omega
/-- the 0 that ends a mark, where nothing lies between -/
theorem end_mark {S : LS} (hb : Bits S.seen) (h6 : tro S.seen = 6) (h7 : 7 ≤ S.seen.length) (he : S.en < 0 ∨ (S.seen.length : Int) - 7 ≤ S.en) : hstep S 0 = (⟨S.seen ++ [0], ((S.seen ++ [0]).length : Int), S.hurt⟩, none) := by
  have hl : (S.seen ++ [0]).length = S.seen.length + 1 := by rw [List.length_append]; rfl
  unfold hstep
  rw [if_pos ((mark_iff hb).mpr ⟨rfl, h6, h7⟩), if_pos]
  rw [hl]
  rcases he with h | h
  · exact .inl h
  · exact .inr (by omega)
theorem mark_split : markL = [0, 1, 1, 1, 1, 1, 1] ++ [0] := rfl
/-- a mark, from ones alone or behind a mark -/
theorem hall_mark {S : LS} (hb : Bits S.seen) (hs : (¬ tro S.seen = 6) ∨ S.seen.length < 7) (he : S.en < 0 ∨ S.en = S.seen.length) (h0 : S.hurt = 0) : ∃ S', hall S markL = (S', []) ∧ Bst S' ∧ S'.seen = S.seen ++ markL := by
  have hq : hall S [0, 1, 1, 1, 1, 1, 1] = (⟨S.seen ++ [0, 1, 1, 1, 1, 1, 1], S.en, S.hurt⟩, []) := by
    refine hall_quiet S _ (fun i b hi hm => ?_) (fun h => by show (S.seen.length : Int) + (7 : Nat) - S.en ≤ 400; rcases he with z | z <;> omega)
    have hil : i < 7 := (List.getElem?_eq_some_iff.mp hi).1
    have hm := (mark_iff (bits_app hb (bits_take bits7 i))).mp hm
    cases i with
    | zero =>
      have e : S.seen ++ ([0, 1, 1, 1, 1, 1, 1] : List Int).take 0 = S.seen := List.append_nil _
      rw [e] at hm
      rcases hs with z | z
      · exact z hm.2.1
      · omega
    | succ i =>
      have e : S.seen ++ ([0, 1, 1, 1, 1, 1, 1] : List Int).take (i + 1) = (S.seen ++ [0]) ++ ([1, 1, 1, 1, 1, 1] : List Int).take i := by
        rw [List.append_assoc]
        rfl
      have h6 := hm.2.1
      rw [e, tro_app0 (tro_z _)] at h6
      have := tro_le (([1, 1, 1, 1, 1, 1] : List Int).take i)
      rw [List.length_take] at this
      omega
  have hl7 : (S.seen ++ [0, 1, 1, 1, 1, 1, 1]).length = S.seen.length + 7 := by rw [List.length_append]; rfl
  have he2 := end_mark (S := ⟨S.seen ++ [0, 1, 1, 1, 1, 1, 1], S.en, S.hurt⟩) (bits_app hb bits7) (tro7 _) (by show 7 ≤ (S.seen ++ [0, 1, 1, 1, 1, 1, 1]).length; omega) (by
    show S.en < 0 ∨ ((S.seen ++ [0, 1, 1, 1, 1, 1, 1]).length : Int) - 7 ≤ S.en
    rcases he with z | z
    · exact .inl z
    · exact .inr (by omega))
  refine ⟨⟨S.seen ++ markL, ((S.seen ++ markL).length : Int), S.hurt⟩, ?_, ⟨bits_app hb mark_bits, ?_, rfl, h0⟩, rfl⟩
  · rw [mark_split, hall_app, hq, hall_one, he2]
    show ((⟨S.seen ++ [0, 1, 1, 1, 1, 1, 1] ++ [0], _, _⟩ : LS), _) = _
    rw [List.append_assoc]
    rfl
  · show tro (S.seen ++ markL) = 0
    rw [mark_split, ← List.append_assoc]
    exact tro_z _
/-- the mark that shares its 0 with the one ahead -/
theorem hall_mark7 {S : LS} (h : Bst S) (h1 : 1 ≤ S.seen.length) : ∃ S', hall S (markL.drop 1) = (S', []) ∧ Bst S' ∧ S'.seen = S.seen ++ markL.drop 1 := by
  have b6 : Bits [1, 1, 1, 1, 1, 1] := fun z hz => by
    simp only [List.mem_cons, List.not_mem_nil, or_false] at hz
    omega
  have e : markL.drop 1 = [1, 1, 1, 1, 1, 1] ++ [0] := rfl
  have hq : hall S [1, 1, 1, 1, 1, 1] = (⟨S.seen ++ [1, 1, 1, 1, 1, 1], S.en, S.hurt⟩, []) := by
    refine hall_q2 h.bits b6 h.t0 (fun i hi => ?_) (fun _ => by rw [h.en]; show (S.seen.length : Int) + (6 : Nat) - S.seen.length ≤ 400; omega)
    have hi : i < 6 := hi
    have := tro_le (([1, 1, 1, 1, 1, 1] : List Int).take i)
    rw [List.length_take] at this
    omega
  have hl6 : (S.seen ++ [1, 1, 1, 1, 1, 1]).length = S.seen.length + 6 := by rw [List.length_append]; rfl
  have h6 : tro (S.seen ++ [1, 1, 1, 1, 1, 1]) = 6 := by
    rw [tro_app0 h.t0]
    decide
  have he2 := end_mark (S := ⟨S.seen ++ [1, 1, 1, 1, 1, 1], S.en, S.hurt⟩) (bits_app h.bits b6) h6 (by show 7 ≤ (S.seen ++ [1, 1, 1, 1, 1, 1]).length; omega) (by
    show S.en < 0 ∨ ((S.seen ++ [1, 1, 1, 1, 1, 1]).length : Int) - 7 ≤ S.en
    rw [h.en]
    exact .inr (by omega))
  refine ⟨⟨S.seen ++ markL.drop 1, ((S.seen ++ markL.drop 1).length : Int), S.hurt⟩, ?_, ⟨bits_app h.bits (bits_drop mark_bits 1), ?_, rfl, h.h0⟩, rfl⟩
  · rw [e, hall_app, hq, hall_one, he2]
    show ((⟨S.seen ++ [1, 1, 1, 1, 1, 1] ++ [0], _, _⟩ : LS), _) = _
    rw [List.append_assoc]
    rfl
  · show tro (S.seen ++ markL.drop 1) = 0
    rw [e, ← List.append_assoc]
    exact tro_z _
/-! what lies between two marks -/
structure StP (s : List Int × Nat) (i : Nat) : Prop where
  pre : ∀ j, j ≤ s.1.length → tro (s.1.take j) ≤ 5
  len : 5 * s.1.length + s.2 ≤ 6 * i
theorem stS_p {s : List Int × Nat} {i : Nat} {b : Int} (ho : StOk s i) (h : StP s i) : StP (stS s b) (i + 1) := by
  have hl : (s.1 ++ [b]).length = s.1.length + 1 := by rw [List.length_append]; rfl
  have h1 : tro (s.1 ++ [b]) = if b = 1 then s.2 + 1 else 0 := by rw [tro_snoc, ho.tr]
  have h5 : tro (s.1 ++ [b]) ≤ 5 := by
    rw [h1]
    have := ho.lt
    split <;> omega
  have pre1 : ∀ j, j ≤ (s.1 ++ [b]).length → tro ((s.1 ++ [b]).take j) ≤ 5 := by
    intro j hj
    rcases Nat.lt_or_ge s.1.length j with z | z
    · rw [List.take_of_length_le (by omega)]
      exact h5
    · rw [List.take_append_of_le_length z]
      exact h.pre j z
  have hlen := h.len
  unfold stS
  by_cases c : (if b = 1 then s.2 + 1 else 0) = 5
  · rw [if_pos c]
    have h4 : s.2 = 4 := by
      split at c
      · omega
      · omega
    refine ⟨fun j hj => ?_, ?_⟩
    · have hj : j ≤ (s.1 ++ [b] ++ [0]).length := hj
      show tro ((s.1 ++ [b] ++ [0]).take j) ≤ 5
      rw [List.length_append] at hj
      rcases Nat.lt_or_ge (s.1 ++ [b]).length j with z | z
      · rw [List.take_of_length_le (by rw [List.length_append]; show (s.1 ++ [b]).length + 1 ≤ j; omega), tro_z]
        decide
      · rw [List.take_append_of_le_length z]
        exact pre1 j z
    · show 5 * (s.1 ++ [b] ++ [0]).length + 0 ≤ 6 * (i + 1)
      rw [List.length_append, hl]
      show 5 * (s.1.length + 1 + 1) + 0 ≤ _
      omega
  · rw [if_neg c]
    refine ⟨pre1, ?_⟩
    show 5 * (s.1 ++ [b]).length + (if b = 1 then s.2 + 1 else 0) ≤ 6 * (i + 1)
    rw [hl]
    split <;> omega
theorem stR_p {ns : List Int} (hb : Bits ns) : ∀ i, i ≤ ns.length → StP (stR (ns.take i)) i
  | 0, _ => ⟨fun j hj => by
      have hj : j ≤ 0 := hj
      rw [Nat.le_zero.mp hj]
      show tro [] ≤ 5
      decide, by show 5 * 0 + 0 ≤ 6 * 0; decide⟩
  | i + 1, h => by
    have hi : i < ns.length := h
    rw [stR_more (List.getElem?_eq_getElem hi)]
    exact stS_p (stR_ok hb i (by omega)) (stR_p hb i (by omega))
theorem stuff_p {ns : List Int} (hb : Bits ns) : StP (stR ns) ns.length := by
  have := stR_p hb ns.length (Nat.le_refl _)
  rwa [List.take_length] at this
theorem stuff_pos {ns : List Int} (h : 0 < ns.length) : 0 < (stuffL ns).length := by
  have key : ∀ (l : List Int) (s : List Int × Nat), s.1.length + l.length ≤ (l.foldl stS s).1.length := by
    intro l
    induction l with
    | nil => exact fun s => Nat.le_refl _
    | cons b r ih =>
      intro s
      have := ih (stS s b)
      have h1 : s.1.length + 1 ≤ (stS s b).1.length := by
        unfold stS
        by_cases c : (if b = 1 then s.2 + 1 else 0) = 5
        · rw [if_pos c]
          show _ ≤ (s.1 ++ [b] ++ [0]).length
          rw [List.length_append, List.length_append]
          show s.1.length + 1 ≤ s.1.length + 1 + 1
          omega
        · rw [if_neg c]
          show _ ≤ (s.1 ++ [b]).length
          rw [List.length_append]
          exact Nat.le_refl _
      show s.1.length + (r.length + 1) ≤ (r.foldl stS (stS s b)).1.length
      omega
  have := key ns ([], 0)
  show 0 < (ns.foldl stS ([], 0)).1.length
  have e : ([] : List Int).length = 0 := rfl
  rw [e] at this
  omega
/-- a body and its mark, behind a mark -/
theorem hall_body {S : LS} (h : Bst S) {r : List Int} (hr : Bits r) (h1 : 0 < r.length) (h2 : r.length ≤ 256) : ∃ S', hall S (stuffL (r ++ sealL r) ++ markL) = (S', [r]) ∧ Bst S' ∧ S'.seen = S.seen ++ (stuffL (r ++ sealL r) ++ markL) := by
  have hfb : Bits (r ++ sealL r) := frame_bits hr
  have hfl : (r ++ sealL r).length = r.length + 16 := by rw [List.length_append, seal_len]
  have ok := stuff_ok hfb
  have pp := stuff_p hfb
  have hbd : Bits (stuffL (r ++ sealL r)) := ok.bits
  have hpre : ∀ j, j ≤ (stuffL (r ++ sealL r)).length → tro ((stuffL (r ++ sealL r)).take j) ≤ 5 := pp.pre
  have hbl : 5 * (stuffL (r ++ sealL r)).length ≤ 6 * (r.length + 16) := by
    have := pp.len
    rw [hfl] at this
    show 5 * (stR (r ++ sealL r)).1.length ≤ _
    omega
  have hb0 : 0 < (stuffL (r ++ sealL r)).length := stuff_pos (by omega)
  have hU := U_stuff (r ++ sealL r)
  generalize stuffL (r ++ sealL r) = bd at hbd hpre hbl hb0 hU ⊢
  have hl7 : (bd ++ [0, 1, 1, 1, 1, 1, 1]).length = bd.length + 7 := by rw [List.length_append]; rfl
  have hq : hall S (bd ++ [0, 1, 1, 1, 1, 1, 1]) = (⟨S.seen ++ (bd ++ [0, 1, 1, 1, 1, 1, 1]), S.en, S.hurt⟩, []) := by
    refine hall_q2 h.bits (bits_app hbd bits7) h.t0 (fun i hi => ?_) (fun _ => by rw [h.en, hl7]; omega)
    rw [hl7] at hi
    rcases Nat.lt_or_ge bd.length i with z | z
    · rw [List.take_append, List.take_of_length_le (by omega)]
      obtain ⟨j, hj⟩ : ∃ j, i - bd.length = j + 1 := ⟨i - bd.length - 1, by omega⟩
      rw [hj]
      have e : bd ++ ([0, 1, 1, 1, 1, 1, 1] : List Int).take (j + 1) = (bd ++ [0]) ++ ([1, 1, 1, 1, 1, 1] : List Int).take j := by
        rw [List.append_assoc]
        rfl
      rw [e, tro_app0 (tro_z _)]
      have := tro_le (([1, 1, 1, 1, 1, 1] : List Int).take j)
      rw [List.length_take] at this
      omega
    · rw [List.take_append_of_le_length z]
      exact hpre i z
  have hsl : (S.seen ++ (bd ++ [0, 1, 1, 1, 1, 1, 1])).length = S.seen.length + bd.length + 7 := by rw [List.length_append, hl7]; omega
  have hsl2 : (S.seen ++ (bd ++ [0, 1, 1, 1, 1, 1, 1]) ++ [0]).length = S.seen.length + bd.length + 8 := by rw [List.length_append, hsl]; rfl
  have hj : judge bd = some r := by
    have hs : sealL ((r ++ sealL r).take ((r ++ sealL r).length - 16)) = (r ++ sealL r).drop ((r ++ sealL r).length - 16) := by rw [hfl, Nat.add_sub_cancel, List.take_left, List.drop_left]
    rw [judge_r hU, if_pos ⟨by omega, by omega, hs⟩, hfl, Nat.add_sub_cancel, List.take_left]
  have he2 : hstep ⟨S.seen ++ (bd ++ [0, 1, 1, 1, 1, 1, 1]), S.en, S.hurt⟩ 0 = (⟨S.seen ++ (bd ++ [0, 1, 1, 1, 1, 1, 1]) ++ [0], ((S.seen ++ (bd ++ [0, 1, 1, 1, 1, 1, 1]) ++ [0]).length : Int), S.hurt⟩, some r) := by
    have hm : lastOf (S.seen ++ (bd ++ [0, 1, 1, 1, 1, 1, 1]) ++ [0]) = markL := (mark_iff (bits_app h.bits (bits_app hbd bits7))).mpr ⟨rfl, by rw [← List.append_assoc]; exact tro7 _, by omega⟩
    unfold hstep
    dsimp only
    rw [if_pos hm, if_neg]
    · have e : ((S.seen ++ (bd ++ [0, 1, 1, 1, 1, 1, 1]) ++ [0]).drop S.en.toNat).take ((S.seen ++ (bd ++ [0, 1, 1, 1, 1, 1, 1]) ++ [0]).length - 8 - S.en.toNat) = bd := by
        rw [hsl2, h.en, Int.toNat_natCast, List.append_assoc, List.drop_left, show S.seen.length + bd.length + 8 - 8 - S.seen.length = bd.length by omega, List.append_assoc, List.take_left]
      rw [e, hj]
    · rw [h.en, hsl2]
      rintro (z | z) <;> omega
  refine ⟨⟨S.seen ++ (bd ++ markL), ((S.seen ++ (bd ++ markL)).length : Int), S.hurt⟩, ?_, ⟨bits_app h.bits (bits_app hbd mark_bits), ?_, rfl, h.h0⟩, rfl⟩
  · have e : bd ++ markL = (bd ++ [0, 1, 1, 1, 1, 1, 1]) ++ [0] := by rw [List.append_assoc]; rfl
    rw [e, hall_app, hq, hall_one, he2]
    show ((⟨S.seen ++ (bd ++ [0, 1, 1, 1, 1, 1, 1]) ++ [0], _, _⟩ : LS), _) = _
    rw [List.append_assoc S.seen]
    rfl
  · show tro (S.seen ++ (bd ++ markL)) = 0
    rw [mark_split, ← List.append_assoc, ← List.append_assoc]
    exact tro_z _
theorem hall_marks : ∀ (m : Nat) {S : LS}, Bst S → ∃ S', hall S (List.replicate m markL).flatten = (S', []) ∧ Bst S' ∧ S'.seen = S.seen ++ (List.replicate m markL).flatten
  | 0, S, h => ⟨S, rfl, h, (List.append_nil _).symm⟩
  | m + 1, S, h => by
    obtain ⟨S1, e1, b1, s1⟩ := hall_mark (S := S) h.bits (.inl (by rw [h.t0]; decide)) (.inr h.en) h.h0
    obtain ⟨S2, e2, b2, s2⟩ := hall_marks m b1
    refine ⟨S2, ?_, b2, ?_⟩
    · rw [List.replicate_succ, List.flatten_cons, hall_app, e1]
      show ((hall S1 _).1, [] ++ (hall S1 _).2) = _
      rw [e2]
      rfl
    · rw [List.replicate_succ, List.flatten_cons, s2, s1, List.append_assoc]
theorem frame_split (r : List Int) : frameL r = markL ++ (stuffL (r ++ sealL r) ++ markL) := by
  show markL ++ stuffL (r ++ sealL r) ++ markL = _
  rw [List.append_assoc]
def S00 : LS := ⟨[], -1, 0⟩
/-- one frame more, behind a mark; whole -/
theorem hall_frame {S : LS} (h : Bst S) {r : List Int} (hr : Bits r) (h1 : 0 < r.length) (h2 : r.length ≤ 256) : ∃ S', hall S (frameL r) = (S', [r]) ∧ Bst S' ∧ S'.seen = S.seen ++ frameL r := by
  obtain ⟨S1, e1, b1, s1⟩ := hall_mark (S := S) h.bits (.inl (by rw [h.t0]; decide)) (.inr h.en) h.h0
  obtain ⟨S2, e2, b2, s2⟩ := hall_body b1 hr h1 h2
  refine ⟨S2, ?_, b2, ?_⟩
  · rw [frame_split, hall_app, e1]
    show ((hall S1 _).1, [] ++ (hall S1 _).2) = _
    rw [e2]
    rfl
  · rw [frame_split, s2, s1, List.append_assoc]
theorem Jo.heard {rows : List (List Int)} {s : List Int} (h : Jo rows s) (hr : ∀ r ∈ rows, Bits r ∧ 0 < r.length ∧ r.length ≤ 256) :
    (rows = [] ∧ ∃ c, c ≤ 11 ∧ s = List.replicate c 1 ∧ hall S00 s = (⟨s, -1, 0⟩, [])) ∨ (0 < rows.length ∧ 1 ≤ s.length ∧ ∃ S', hall S00 s = (S', rows) ∧ Bst S' ∧ S'.seen = s) := by
  have last : ∀ {rows : List (List Int)} {r : List Int}, (∀ x ∈ rows ++ [r], Bits x ∧ 0 < x.length ∧ x.length ≤ 256) → Bits r ∧ 0 < r.length ∧ r.length ≤ 256 := fun h => h _ (List.mem_append_right _ (.head _))
  have pre : ∀ {rows : List (List Int)} {r : List Int}, (∀ x ∈ rows ++ [r], Bits x ∧ 0 < x.length ∧ x.length ≤ 256) → ∀ x ∈ rows, Bits x ∧ 0 < x.length ∧ x.length ≤ 256 := fun h x hx => h x (List.mem_append_left _ hx)
  have pos : ∀ {rows : List (List Int)} {r : List Int}, 0 < (rows ++ [r]).length := fun {rows r} => by
    rw [List.length_append]
    exact Nat.succ_pos _
  have step : ∀ {rows : List (List Int)} {s t : List Int} {r : List Int} {S : LS}, hall S00 s = (S, rows) → S.seen = s → (∃ S', hall S t = (S', [r]) ∧ Bst S' ∧ S'.seen = S.seen ++ t) → 1 ≤ t.length → (rows ++ [r] = [] ∧ ∃ c, c ≤ 11 ∧ s ++ t = List.replicate c 1 ∧ hall S00 (s ++ t) = (⟨s ++ t, -1, 0⟩, [])) ∨ (0 < (rows ++ [r]).length ∧ 1 ≤ (s ++ t).length ∧ ∃ S', hall S00 (s ++ t) = (S', rows ++ [r]) ∧ Bst S' ∧ S'.seen = s ++ t) := by
    intro rows s t r S e es h ht
    obtain ⟨S', e', b', s'⟩ := h
    refine .inr ⟨pos, by rw [List.length_append]; omega, S', ?_, b', by rw [s', es]⟩
    rw [hall_app, e]
    show ((hall S t).1, rows ++ (hall S t).2) = _
    rw [e']
  have flp : ∀ r : List Int, 16 ≤ (frameL r).length := fun r => by
    rw [frame_split, List.length_append, List.length_append]
    show 16 ≤ 8 + (_ + 8)
    omega
  induction h with
  | start c hc =>
    refine .inl ⟨rfl, c, hc, rfl, ?_⟩
    refine hall_quiet S00 _ (fun i b hi hm => ?_) (fun z => absurd z (by decide))
    have hb : b = 1 := List.eq_of_mem_replicate (List.mem_of_getElem? hi)
    have hx : Bits (S00.seen ++ (List.replicate c (1 : Int)).take i) := bits_app bits_nil (fun z hz => .inr (List.eq_of_mem_replicate (List.mem_of_mem_take hz)))
    have := ((mark_iff hx).mp hm).1
    omega
  | full r h ih =>
    obtain ⟨l1, l2, l3⟩ := last hr
    rcases ih (pre hr) with ⟨rfl, c, hc, rfl, e⟩ | ⟨hp, hs, S, e, bS, es⟩
    · -- the first one
      have hones : Bits (List.replicate c (1 : Int)) := fun z hz => .inr (List.eq_of_mem_replicate hz)
      have ht : tro (List.replicate c (1 : Int)) ≤ c := by
        have := tro_le (List.replicate c (1 : Int))
        rwa [List.length_replicate] at this
      have hsx : (¬ tro (List.replicate c (1 : Int)) = 6) ∨ (List.replicate c (1 : Int)).length < 7 := by
        by_cases z : c < 7
        · exact .inr (by rw [List.length_replicate]; exact z)
        · refine .inl (fun y => ?_)
          have : tro (List.replicate c (1 : Int)) = c := by
            unfold tro
            rw [List.reverse_replicate, List.takeWhile_replicate]
            simp
          omega
      obtain ⟨S1, e1, b1, s1⟩ := hall_mark (S := ⟨List.replicate c 1, -1, 0⟩) hones hsx (.inl (by show (-1 : Int) < 0; decide)) rfl
      obtain ⟨S2, e2, b2, s2⟩ := hall_body b1 l1 l2 l3
      refine step e rfl ⟨S2, ?_, b2, ?_⟩ (by have := flp r; omega)
      · rw [frame_split, hall_app, e1]
        show ((hall S1 _).1, [] ++ (hall S1 _).2) = _
        rw [e2]
        rfl
      · rw [frame_split, s2, s1, List.append_assoc]
    · exact step e es (hall_frame bS l1 l2 l3) (by have := flp r; omega)
  | one r h n ih =>
    obtain ⟨l1, l2, l3⟩ := last hr
    rcases ih (pre hr) with ⟨rfl, _⟩ | ⟨hp, hs, S, e, bS, es⟩
    · exact absurd n (by decide)
    · have ed : (frameL r).drop 8 = stuffL (r ++ sealL r) ++ markL := by
        rw [frame_split]
        exact List.drop_left (l₁ := markL)
      rw [ed]
      exact step e es (hall_body bS l1 l2 l3) (by rw [List.length_append]; show 1 ≤ _ + 8; omega)
  | two r h n ih =>
    obtain ⟨l1, l2, l3⟩ := last hr
    rcases ih (pre hr) with ⟨rfl, _⟩ | ⟨hp, hs, S, e, bS, es⟩
    · exact absurd n (by decide)
    · have ed : (frameL r).drop 1 = markL.drop 1 ++ (stuffL (r ++ sealL r) ++ markL) := by
        rw [frame_split]
        rfl
      rw [ed]
      obtain ⟨S1, e1, b1, s1⟩ := hall_mark7 bS (by rw [es]; exact hs)
      obtain ⟨S2, e2, b2, s2⟩ := hall_body b1 l1 l2 l3
      refine step e es ⟨S2, ?_, b2, ?_⟩ (by rw [List.length_append]; show 1 ≤ 7 + _; omega)
      · rw [hall_app, e1]
        show ((hall S1 _).1, [] ++ (hall S1 _).2) = _
        rw [e2]
        rfl
      · rw [s2, s1, List.append_assoc]
  | marks r m hm h n ih =>
    obtain ⟨l1, l2, l3⟩ := last hr
    rcases ih (pre hr) with ⟨rfl, _⟩ | ⟨hp, hs, S, e, bS, es⟩
    · exact absurd n (by decide)
    · rw [List.append_assoc]
      obtain ⟨S1, e1, b1, s1⟩ := hall_marks m bS
      obtain ⟨S2, e2, b2, s2⟩ := hall_frame b1 l1 l2 l3
      refine step e es ⟨S2, ?_, b2, ?_⟩ (by rw [List.length_append]; have := flp r; omega)
      · rw [hall_app, e1]
        show ((hall S1 _).1, [] ++ (hall S1 _).2) = _
        rw [e2]
        rfl
      · rw [s2, s1, List.append_assoc]
theorem Strm.heard {rows : List (List Int)} {ns : List Int} (h : Strm rows ns) (hr : ∀ r ∈ rows, Bits r ∧ 0 < r.length ∧ r.length ≤ 256) : ∃ S', hall S00 ns = (S', rows) ∧ S'.hurt = 0 := by
  obtain ⟨s, t, hj, ht, rfl⟩ := h
  rcases hj.heard hr with ⟨rfl, c, hc, rfl, e⟩ | ⟨hp, hs, S, e, bS, es⟩
  · rcases ht with rfl | rfl
    · rw [List.append_nil]
      exact ⟨_, e, rfl⟩
    · -- ones alone, then ones and a 0
      have hone : ∀ c : Nat, hall S00 (List.replicate c 1 ++ markL.drop 1) = (⟨List.replicate c 1 ++ markL.drop 1, -1, 0⟩, []) := by
        intro c
        have hbits : Bits (List.replicate c (1 : Int)) := fun z hz => .inr (List.eq_of_mem_replicate hz)
        refine hall_quiet S00 _ (fun i b hi hm => ?_) (fun z => absurd z (by decide))
        have hx : Bits (S00.seen ++ (List.replicate c (1 : Int) ++ markL.drop 1).take i) := bits_app bits_nil (bits_take (bits_app hbits (bits_drop mark_bits 1)) i)
        obtain ⟨hb, h6, h7⟩ := (mark_iff hx).mp hm
        subst hb
        have hil : i < (List.replicate c (1 : Int) ++ markL.drop 1).length := (List.getElem?_eq_some_iff.mp hi).1
        rw [List.length_append, List.length_replicate] at hil
        have hil : i < c + 7 := hil
        have ei : i = c + 6 := by
          rcases Nat.lt_or_ge i (c + 6) with z | z
          · exfalso
            have eo : List.replicate c (1 : Int) ++ markL.drop 1 = List.replicate (c + 6) 1 ++ [0] := by
              rw [← List.replicate_append_replicate, List.append_assoc]
              rfl
            rw [eo, List.getElem?_append_left (by rw [List.length_replicate]; exact z)] at hi
            have := List.eq_of_mem_replicate (List.mem_of_getElem? hi)
            omega
          · omega
        subst ei
        have eo : List.replicate c (1 : Int) ++ markL.drop 1 = List.replicate (c + 6) 1 ++ [0] := by
          rw [← List.replicate_append_replicate, List.append_assoc]
          rfl
        have et : (List.replicate (c + 6) (1 : Int) ++ [0]).take (c + 6) = List.replicate (c + 6) 1 := by
          have := List.take_left (l₁ := List.replicate (c + 6) (1 : Int)) (l₂ := [0])
          rwa [List.length_replicate] at this
        have e0 : S00.seen ++ (List.replicate c (1 : Int) ++ markL.drop 1).take (c + 6) = List.replicate (c + 6) 1 := by
          rw [eo, et]
          rfl
        rw [e0] at h6 h7
        rw [List.length_replicate] at h7
        have : tro (List.replicate (c + 6) (1 : Int)) = c + 6 := by
          unfold tro
          rw [List.reverse_replicate, List.takeWhile_replicate]
          simp
        omega
      exact ⟨_, hone c, rfl⟩
  · rcases ht with rfl | rfl
    · rw [List.append_nil]
      exact ⟨S, e, bS.h0⟩
    · obtain ⟨S1, e1, b1, s1⟩ := hall_mark7 bS (by rw [es]; exact hs)
      refine ⟨S1, ?_, b1.h0⟩
      rw [hall_app, e]
      show ((hall S _).1, rows ++ (hall S _).2) = _
      rw [e1, List.append_nil]
/-! ### a reader with its stream: what came out, what should, what is still to come -/
theorem ixN_nat {i n : Nat} (h : i < n) : ixN n (i : Int) = some i := by
  unfold ixN
  rw [if_pos (by omega), if_pos (by omega)]
  simp
section
variable {T0 : List (Addr × Str)} {Ts : List Th} {H H' : Hp} {C r l bh l2 bh2 pl pf p : Addr} {S S2 : LS} {ps fps ps2 : List Addr} {rows r1 r2 : List (List Int)} {xs xs' : List V} {i : Nat}
theorem Hs.tookR (h : Hs T0 Ts H) (hi : Ts[i]? = some (tRd C r l bh S)) (mv : MvF [r, bh] H H') (hft : ∀ p ∈ [r, l2, bh2], p ∈ [r, l, bh] ∨ H p = none) (rd : RdP C r l2 bh2 S2 H') (epl : H' pl = some (.lst (ps.map V.ref))) (hrows : RowsAt H' ps rows) (hnew : ∀ p ∈ pl :: ps, H p = none ∧ p ∉ [r, l2, bh2]) (hnin : pl ∉ ps) :
    Hs T0 (tRows pl ps rows :: Ts.set i (tRd C r l2 bh2 S2)) H' :=
  h.opNew (N := tRows pl ps rows) (T' := tRd C r l2 bh2 S2) i hi mv (fun p hp => by
    rcases in2 hp with rfl | rfl
    · exact .inl (.head _)
    · exact .inl (.tail _ (.tail _ (.head _)))) rd hft ⟨epl, hrows, hnin⟩ hnew
theorem RowsAt.app {H : Hp} : ∀ {ps qs : List Addr} {rs ss : List (List Int)}, RowsAt H ps rs → RowsAt H qs ss → RowsAt H (ps ++ qs) (rs ++ ss)
  | [], qs, [], ss, _, g => g
  | p :: ps, qs, r :: rs, ss, h, g => ⟨h.1, RowsAt.app h.2 g⟩
/-- two lists of rows put together -/
theorem Hs.rowsCat (h : Hs T0 (tL p ((fps ++ ps2).map V.ref) :: tRowsG pl xs ps2 r2 :: tRowsG pf xs' fps r1 :: Ts) H) : Hs T0 (tRows p (fps ++ ps2) (r1 ++ r2) :: Ts) H := by
  obtain ⟨_, g2, _⟩ := h.get 1 rfl
  obtain ⟨_, g1, _⟩ := h.get 2 rfl
  have n2 : p ∉ ps2 := fun z => h.sep 0 1 _ _ (by decide) rfl rfl p (.head _) (.tail _ z)
  have n1 : p ∉ fps := fun z => h.sep 0 2 _ _ (by decide) rfl rfl p (.head _) (.tail _ z)
  have h1 : Hs T0 (tRowsG p ((fps ++ ps2).map V.ref) ps2 r2 :: tRowsG pf xs' fps r1 :: Ts) H := h.merge (C := tRowsG p ((fps ++ ps2).map V.ref) ps2 r2) ⟨h.at 0 rfl, g2, n2⟩ (fun q hq => by
    rcases List.mem_cons.mp hq with rfl | hq
    · exact .inl (.head _)
    · exact .inr (.tail _ hq))
  refine h1.merge (C := tRows p (fps ++ ps2) (r1 ++ r2)) ⟨h.at 0 rfl, RowsAt.app g1 g2, fun z => (List.mem_append.mp z).elim n1 n2⟩ (fun q hq => ?_)
  rcases List.mem_cons.mp hq with rfl | hq
  · exact .inl (.head _)
  · rcases List.mem_append.mp hq with hq | hq
    · exact .inr (.tail _ hq)
    · exact .inl (.tail _ hq)
end
structure YX where
  r : Addr
  l : Addr
  bh : Addr
  S : LS
  pf : Addr
  fps : List Addr
  fr : List (List Int)
  pr : Addr
  rps : List Addr
  rr : List (List Int)
  ps : Addr
  sps : List Addr
  parts : List (List Int)
  heard : List Int
abbrev gY (C : Addr) (y : YX) : List Th := [tRd C y.r y.l y.bh y.S, tRows y.pf y.fps y.fr, tRows y.pr y.rps y.rr, tRows y.ps y.sps y.parts]
def tY (C : Addr) (y : YX) : Th := tG (gY C y)
def W09 (C : Addr) (b : Addr × Addr) (prs pfo pro pso : Addr) (Y : List YX) : List Th := [tB b, tL prs (Y.map fun y => V.ref y.r), tL pfo (Y.map fun y => V.ref y.pf), tL pro (Y.map fun y => V.ref y.pr), tL pso (Y.map fun y => V.ref y.ps)] ++ Y.map (tY C)
/-- the w-th one laid open -/
def F09 (C : Addr) (b : Addr × Addr) (prs pfo pro pso : Addr) (Y : List YX) (y z : YX) : List Th := [tB b, tRd C y.r y.l y.bh y.S, tRows y.pf y.fps y.fr, tRows y.pr y.rps y.rr, tRows y.ps y.sps y.parts, tL prs (Y.map fun y => V.ref y.r), tL pfo (Y.map fun y => V.ref y.pf), tL pro (Y.map fun y => V.ref y.pr), tL pso (Y.map fun y => V.ref y.ps), tY C z]
section
variable {C : Addr} {b : Addr × Addr} {prs pfo pro pso : Addr} {Y : List YX} {y y' z : YX} {w : Nat} {H : Hp}
theorem other (hl : Y.length = 2) (hy : Y[w]? = some y) : ∃ z, Y.eraseIdx w = [z] := by
  have h1 : w < Y.length := (List.getElem?_eq_some_iff.mp hy).1
  have h2 : (Y.eraseIdx w).length = 1 := by rw [List.length_eraseIdx, if_pos h1]; omega
  match e : Y.eraseIdx w, h2 with
  | [z], _ => exact ⟨z, rfl⟩
theorem open9 (h : Hs [] (W09 C b prs pfo pro pso Y) H) (hy : Y[w]? = some y) (hz : Y.eraseIdx w = [z]) : Hs [] (F09 C b prs pfo pro pso Y y z) H := by
  have h1 := (Hs.front (As := [tB b, tL prs (Y.map fun y => V.ref y.r), tL pfo (Y.map fun y => V.ref y.pf), tL pro (Y.map fun y => V.ref y.pr), tL pso (Y.map fun y => V.ref y.ps)]) (f := tY C) h hy)
  rw [hz] at h1
  exact (Hs.ungroup (Ts := gY C y) h1).sel [4, 0, 1, 2, 3, 5, 6, 7, 8, 9] (by decide)
theorem close9 (h : Hs [] (F09 C b prs pfo pro pso (Y.set w y') y' z) H) (hw : w < Y.length) (hz : Y.eraseIdx w = [z]) : Hs [] (W09 C b prs pfo pro pso (Y.set w y')) H := by
  have h1 : Hs [] (gY C y' ++ ([tB b, tL prs ((Y.set w y').map fun y => V.ref y.r), tL pfo ((Y.set w y').map fun y => V.ref y.pf), tL pro ((Y.set w y').map fun y => V.ref y.pr), tL pso ((Y.set w y').map fun y => V.ref y.ps)] ++ ([z].map (tY C)))) H := h.sel [1, 2, 3, 4, 0, 5, 6, 7, 8, 9] (by decide)
  rw [← hz] at h1
  exact Hs.back (f := tY C) (y' := y') (Hs.group h1) hw
end
theorem set_same {α : Type} {R : List α} {j : Nat} {x : α} (h : R[j]? = some x) : R.set j x = R := by
  apply List.ext_getElem?
  intro i
  rw [List.getElem?_set]
  by_cases z : j = i
  · subst z
    rw [if_pos rfl, if_pos (List.getElem?_eq_some_iff.mp h).1, h]
  · rw [if_neg z]
theorem shut9 {C : Addr} {b : Addr × Addr} {prs pfo pro pso : Addr} {Y : List YX} {z : YX} {w : Nat} {H : Hp} {xr xf xo xs : List V} (y' : YX) (h : Hs [] [tB b, tRd C y'.r y'.l y'.bh y'.S, tRows y'.pf y'.fps y'.fr, tRows y'.pr y'.rps y'.rr, tRows y'.ps y'.sps y'.parts, tL prs xr, tL pfo xf, tL pro xo, tL pso xs, tY C z] H) (hw : w < Y.length) (hz : Y.eraseIdx w = [z])
    (er : (Y.set w y').map (fun y => V.ref y.r) = xr) (ef : (Y.set w y').map (fun y => V.ref y.pf) = xf) (eo : (Y.set w y').map (fun y => V.ref y.pr) = xo) (es : (Y.set w y').map (fun y => V.ref y.ps) = xs) : Hs [] (W09 C b prs pfo pro pso (Y.set w y')) H := by
  subst er ef eo es
  exact close9 h hw hz
def Good (y : YX) : Prop := hall S00 y.heard = (y.S, y.fr) ∧ Strm y.rr (y.heard ++ y.parts.flatten) ∧ (∀ r ∈ y.rr, Bits r ∧ 0 < r.length ∧ r.length ≤ 256) ∧ y.rr.length ≤ 5
theorem Good.len {y : YX} (h : Good y) : Bits (y.heard ++ y.parts.flatten) ∧ (y.heard ++ y.parts.flatten).length ≤ 3018 := by
  obtain ⟨_, h2, h3, h4⟩ := h
  have := h2.ok (fun r hr => ⟨(h3 r hr).1, (h3 r hr).2.2⟩)
  exact ⟨this.1, by omega⟩
theorem Good.seen {y : YX} (h : Good y) : y.S.seen = y.heard := by
  have h1 := hall_seen S00 y.heard y.heard.length (Nat.le_refl _)
  rw [List.take_length] at h1
  rw [h.1] at h1
  exact h1
/-- a part taken -/
theorem Good.step {y : YX} {p : List Int} {ps : List (List Int)} (h : Good y) (e : y.parts = p :: ps) {l bh pf q : Addr} {fps sps : List Addr} : Good { y with l := l, bh := bh, S := (hall y.S p).1, pf := pf, fps := fps, fr := y.fr ++ (hall y.S p).2, ps := q, sps := sps, parts := ps, heard := y.heard ++ p } := by
  obtain ⟨h1, h2, h3, h4⟩ := h
  refine ⟨?_, ?_, h3, h4⟩
  · show hall S00 (y.heard ++ p) = _
    rw [hall_app, h1]
  · show Strm y.rr (y.heard ++ p ++ ps.flatten)
    rw [e] at h2
    rw [List.append_assoc]
    exact h2
theorem Good.fin {y : YX} (h : Good y) (e : y.parts.flatten = []) : y.fr = y.rr ∧ y.S.hurt = 0 := by
  obtain ⟨h1, h2, h3, h4⟩ := h
  rw [e, List.append_nil] at h2
  obtain ⟨S', e', h0⟩ := h2.heard h3
  rw [h1] at e'
  obtain ⟨ea, eb⟩ := Prod.mk.inj e'
  exact ⟨eb, by rw [ea]; exact h0⟩
theorem fr_len {y : YX} (h : Good y) : y.fr.length ≤ 3018 ∧ ∀ r ∈ y.fr, r.length ≤ 256 := by
  have h1 := hall_len S00 y.heard y.heard.length (Nat.le_refl _)
  have h2 := hall_rows S00 y.heard y.heard.length (Nat.le_refl _)
  rw [List.take_length, h.1] at h1 h2
  have := h.len.2
  rw [List.length_append] at this
  exact ⟨by show y.fr.length ≤ 3018; have h1 : y.fr.length ≤ y.heard.length := h1; omega, h2⟩
theorem sc_law : FnScope ["_law_script", "_law_bag_here", "_law_readers", "_law_found", "_law_rows", "_law_streams", "_law_which", "_law_k", "_law_part", "_law_handed", "_law_told", "_law_one"] ["_law_script"] (defScope s_law) := ⟨rfl, rfl, rfl, by decide +kernel, rfl, by decide +kernel, by decide +kernel⟩
def spLaw (K : PySem.W.Frag) : Sp := fun vs H Q _ => ∃ (a : Addr) (ns : List Int), vs = [.ref a] ∧ SqL K H a (ns.map V.int) ∧ ∀ H', Q (.bl true) H'
theorem at_map {f : YX → V} {Y : List YX} {w : Nat} {y : YX} (h : Y[w]? = some y) : atI (Y.map f) (w : Int) = some (f y) := atI_nat (by rw [List.getElem?_map, h]; rfl)
theorem ok_law {f C cB : Addr} {fd : FuncData} {k n : Nat} (F : Fun K "law" "law" s_law f fd) (n_isinstance : mg "isinstance" = none) (n_list : mg "list" = none) (n_range : mg "range" = none) (R_ : RdC K C)
    (c_Reader : CalN P w K mg base k "Reader" C ["self"] (spRi C))
    (c__law_bag : Cal P w K mg base (k + 1) "_law_bag" ["_law_script"] (spBag K)) (c__law_cuts : Cal P w K mg base (k + 1) "_law_cuts" ["_law_bag_here", "_law_signs"] spCuts) (c__law_joined : Cal P w K mg base (k + 1) "_law_joined" ["_law_bag_here", "_law_rows"] (spJoined K)) (c__law_payload : Cal P w K mg base (k + 1) "_law_payload" ["_law_bag_here", "_law_most"] spPay)
    (c__law_pick : Cal P w K mg base (k + 1) "_law_pick" ["_law_bag_here", "_law_top"] spPick) (c__law_same : Cal P w K mg base (k + 1) "_law_same" ["_law_found", "_law_due"] (spSame K (n + 3)))
    (c_Reader_hurt : CalM CX0 P w K mg base (k + 1) C "hurt" ["self"] (spHurt C)) (c_Reader_take : CalM (L2.CX P w) P w K mg base (k + 1) C "take" ["self", "bits"] (spTake C cB)) : FnOk P w K mg base CX0 (k + 2) f fd ["_law_script"] (spLaw K) := by
  have sc := sc_law
  refine F.ok sc (fun vs H Q E h => ?_) (fun cdv A outer s H vs Q E hr h => ?_)
  · obtain ⟨a, ns, rfl, _⟩ := h
    rfl
  · obtain ⟨a, ns, rfl, hS, q⟩ := h
    refine ⟨_, (pss_cons (ps_set (i := 1) sc.nd rfl (.inl rfl) (pe_callC c__law_bag hr (by rfl) (pa_cons (pv 0) pa_nil)))
 (pss_cons (ps_set (i := 2) sc.nd rfl (.inl rfl) (pe_lst (pa_cons (pe_makeC0 c_Reader hr (by rfl)) (pa_cons (pe_makeC0 c_Reader hr (by rfl)) pa_nil))))
 (pss_cons (ps_set (i := 3) sc.nd rfl (.inl rfl) (pe_lst (pa_cons (pe_lst pa_nil) (pa_cons (pe_lst pa_nil) pa_nil))))
 (pss_cons (ps_set (i := 4) sc.nd rfl (.inl rfl) (pe_lst (pa_cons (pe_lst pa_nil) (pa_cons (pe_lst pa_nil) pa_nil))))
 (pss_cons (ps_set (i := 5) sc.nd rfl (.inl rfl) (pe_lst (pa_cons (pe_lst pa_nil) (pa_cons (pe_lst pa_nil) pa_nil))))
 (pss_cons (ps_for PassesOwn.never rfl (pi_range1 (by rfl) n_range (pa_cons pe_int pa_nil)) (pg_name (i := 6) sc.nd rfl (.inl rfl))
  (pss_cons (ps_for PassesOwn.never rfl (pi_range1 (by rfl) n_range (pa_cons (pe_callC c__law_pick hr (by rfl) (pa_cons (pv 1) (pa_cons pe_int pa_nil))) pa_nil)) (pg_name (i := 7) sc.nd rfl (.inl rfl))
  (pss_one (ps_expr (pe_bmK K rfl PySem.F.plainAttrs_list PySem.F.slot_list_append PySem.F.type_list_append mt_append (pe_ix (ix_listK K rfl) (pv 4) (pv 6) (fun _ _ => rfl)) (pa_cons (pe_callC c__law_payload hr (by rfl) (pa_cons (pv 1) (pa_cons (pe_ix (ix_listK K rfl) (pe_lst (pa_cons pe_int (pa_cons pe_int (pa_cons pe_int (pa_cons pe_int pa_nil))))) (pe_callC c__law_pick hr (by rfl) (pa_cons (pv 1) (pa_cons pe_int pa_nil))) (fun _ _ => rfl)) pa_nil))) pa_nil)))))
 (pss_one (ps_asg (pe_callC c__law_cuts hr (by rfl) (pa_cons (pv 1) (pa_cons (pe_callC c__law_joined hr (by rfl) (pa_cons (pv 1) (pa_cons (pe_ix (ix_listK K rfl) (pv 4) (pv 6) (fun _ _ => rfl)) pa_nil))) pa_nil))) (pg_sub (pv 5) (pv 6) set_list)))))
 (pss_cons (ps_for PassesOwn.never rfl (pi_range1 (by rfl) n_range (pa_cons pe_int pa_nil)) (pg_name (i := 7) sc.nd rfl (.inl rfl))
  (pss_cons (ps_set (i := 6) sc.nd rfl (.inl rfl) (pe_ifExp (pt_cmpR op_lt (pv 7) pe_int (nomark _)) (pe_callC c__law_pick hr (by rfl) (pa_cons (pv 1) (pa_cons pe_int pa_nil))) (pe_op op_mod (pv 7) pe_int)))
 (pss_one (ps_if (pt_cmpR (op_neDK K rfl hr.units) (pe_ix (ix_listK K rfl) (pv 5) (pv 6) (fun _ _ => rfl)) (pe_lst pa_nil) (nomark _))
  (pss_cons (ps_set (i := 8) sc.nd rfl (.inl rfl) (pe_bmK K rfl PySem.F.plainAttrs_list PySem.F.slot_list_pop PySem.F.type_list_pop mt_popAt (pe_ix (ix_listK K rfl) (pv 5) (pv 6) (fun _ _ => rfl)) (pa_cons pe_int pa_nil)))
 (pss_cons (ps_set (i := 9) sc.nd rfl (.inl rfl) (pe_callTy (call_listK K rfl) (by rfl) n_list (by decide +kernel) (pa_cons (pv 8) pa_nil)))
 (pss_cons (ps_set (i := 10) sc.nd rfl (.inl rfl) (pe_methF (pe_ix (ix_listK K rfl) (pv 2) (pv 6) (fun _ _ => rfl)) c_Reader_take hr (pa_cons (pv 9) pa_nil)))
 (pss_cons (ps_if (PW.pt (pw_or (pt_not (pt_val (pe_callB (call_isiK1 K rfl) (by rfl) n_isinstance (by decide +kernel) (pa_cons (pv 10) (pa_cons (pe_bltn (v := .ty "list") (by rfl) n_list (by decide +kernel) rfl) pa_nil))))) (pw_or1 (pt_cmpR (op_neDK K rfl hr.units) (pv 9) (pv 8) (nomark _)))))
  (pss_one (ps_ret pe_bl))
  pss_nil)
 (pss_cons (ps_asg (pe_op op_cat (pe_ix (ix_listK K rfl) (pv 3) (pv 6) (fun _ _ => rfl)) (pe_lc (own := [("_law_one", 11)]) (g := gName 11) (by rfl) sc.nd (pi_listK K rfl (pv 10)) (blkOk_by (own := [("_law_one", 11)]) (N := ["_law_script", "_law_bag_here", "_law_readers", "_law_found", "_law_rows", "_law_streams", "_law_which", "_law_k", "_law_part", "_law_handed", "_law_told", "_law_one"]) (sc := defScope s_law) (by decide +kernel)) (fun _ _ _ _ _ => pg_name (i := 11) sc.nd rfl (Or.inl rfl)) (fun _ _ _ _ _ => pts_nil) (fun _ _ _ _ _ => (pe_callTy (call_listK K rfl) (by rfl) n_list (by decide +kernel) (pa_cons (pv 11) pa_nil))))) (pg_sub (pv 3) (pv 6) set_list))
 (pss_cons (ps_expr (pe_bmK K rfl PySem.F.plainAttrs_list PySem.F.slot_list_append PySem.F.type_list_append mt_append (pv 10) (pa_cons pe_str pa_nil)))
 (pss_one (ps_expr (pe_bm0K K rfl PySem.F.plainAttrs_list PySem.F.slot_list_reverse PySem.F.type_list_reverse mt_reverse (pv 9))))))))))
  pss_nil))))
 (pss_cons (ps_for PassesOwn.never rfl (pi_range1 (by rfl) n_range (pa_cons pe_int pa_nil)) (pg_name (i := 6) sc.nd rfl (.inl rfl))
  (pss_cons (ps_for PassesOwn.never rfl (pi_listK K rfl (pe_ix (ix_listK K rfl) (pv 5) (pv 6) (fun _ _ => rfl))) (pg_name (i := 8) sc.nd rfl (.inl rfl))
  (pss_one (ps_asg (pe_op op_cat (pe_ix (ix_listK K rfl) (pv 3) (pv 6) (fun _ _ => rfl)) (pe_methF (pe_ix (ix_listK K rfl) (pv 2) (pv 6) (fun _ _ => rfl)) c_Reader_take hr (pa_cons (pv 8) pa_nil))) (pg_sub (pv 3) (pv 6) set_list))))
 (pss_one (ps_if (PW.pt (pw_or (pt_not (pt_val (pe_callC c__law_same hr (by rfl) (pa_cons (pe_ix (ix_listK K rfl) (pv 3) (pv 6) (fun _ _ => rfl)) (pa_cons (pe_ix (ix_listK K rfl) (pv 4) (pv 6) (fun _ _ => rfl)) pa_nil))))) (pw_or1 (pt_not (pt_val (pe_callC c__law_same hr (by rfl) (pa_cons (pe_methC0 (pe_ix (ix_listK K rfl) (pv 2) (pv 6) (fun _ _ => rfl)) c_Reader_hurt hr) (pa_cons pe_int pa_nil))))))))
  (pss_one (ps_ret pe_bl))
  pss_nil))))
 (pss_one (ps_ret pe_bl)))))))))), ?_⟩
    refine ⟨_, rfl, a, ns, rfl, hS, fun H1 b s1 nb hB => ?_⟩
    have h1 : Hs [] [tB b] H1 := Hs.nil0.cons hB (fun j y hj => by cases hj)
    -- two readers
    have mk : ∀ {Ts : List Th} {H1 : Hp} {r dx l0 : Addr}, Hs [] Ts H1 → H1 r = none → H1 dx = none → upd (upd H1 dx (.own r)) r (.ins C dx []) l0 = none → Hs [] (tRd C r l0 r S00 :: Ts) (upd (upd (upd (upd H1 dx (.own r)) r (.ins C dx [])) l0 (.lst [])) r (.ins C dx (rdF l0 .non 0))) := by
      intro Ts H1 r dx l0 h1 nr ndx nl0
      obtain ⟨s2, rd2, nl, nlr⟩ := rd_new (C := C) nr ndx nl0
      refine h1.new (T := tRd C r l0 r S00) s2 rd2 (fun p hp => ?_)
      rcases in3 hp with rfl | rfl | rfl
      · exact nr
      · exact nl
      · exact nr
    have em : ∀ {Ts : List Th} {H1 : Hp} {p : Addr}, Hs [] Ts H1 → H1 p = none → Hs [] (tRows p [] [] :: Ts) (upd H1 p (.lst [])) := by
      intro Ts H1 p h1 np
      exact h1.new (T := tRows p [] []) (same_upd np) ⟨upd_same, trivial, List.not_mem_nil⟩ (fun q hq => by rw [in1 hq]; exact np)
    intro r0 dx0 nr0 ndx0 _
    refine ⟨r0, dx0, rfl, upd_same, fun l0 nl0 => ⟨rfl, ?_⟩⟩
    have h2 := mk h1 nr0 ndx0 nl0
    generalize upd (upd (upd (upd H1 dx0 (.own r0)) r0 (.ins C dx0 [])) l0 (.lst [])) r0 (.ins C dx0 (rdF l0 .non 0)) = H2 at h2 ⊢
    intro r1 dx1 nr1 ndx1 _
    refine ⟨r1, dx1, rfl, upd_same, fun l1 nl1 => ⟨rfl, ?_⟩⟩
    have h3 := mk h2 nr1 ndx1 nl1
    generalize upd (upd (upd (upd H2 dx1 (.own r1)) r1 (.ins C dx1 [])) l1 (.lst [])) r1 (.ins C dx1 (rdF l1 .non 0)) = H3 at h3 ⊢
    refine ⟨(by show 2 ≤ sizeLine; decide), fun prs nprs => ?_⟩
    have h4 := h3.newHU (o := .lst [.ref r0, .ref r1]) nprs
    refine ⟨Nat.zero_le _, fun f0 nf0 => ?_⟩
    have h5 := em h4 nf0
    refine ⟨Nat.zero_le _, fun f1 nf1 => ?_⟩
    have h6 := em h5 nf1
    refine ⟨(by show 2 ≤ sizeLine; decide), fun pfo npfo => ?_⟩
    have h7 := h6.newHU (o := .lst [.ref f0, .ref f1]) npfo
    refine ⟨Nat.zero_le _, fun o0 no0 => ?_⟩
    have h8 := em h7 no0
    refine ⟨Nat.zero_le _, fun o1 no1 => ?_⟩
    have h9 := em h8 no1
    refine ⟨(by show 2 ≤ sizeLine; decide), fun pro npro => ?_⟩
    have h10 := h9.newHU (o := .lst [.ref o0, .ref o1]) npro
    refine ⟨Nat.zero_le _, fun t0 nt0 => ?_⟩
    have h11 := em h10 nt0
    refine ⟨Nat.zero_le _, fun t1 nt1 => ?_⟩
    have h12 := em h11 nt1
    refine ⟨(by show 2 ≤ sizeLine; decide), fun pso npso => ?_⟩
    have h13 := h12.newHU (o := .lst [.ref t0, .ref t1]) npso
    let y0 : YX := ⟨r0, l0, r0, S00, f0, [], [], o0, [], [], t0, [], [], []⟩
    let y1 : YX := ⟨r1, l1, r1, S00, f1, [], [], o1, [], [], t1, [], [], []⟩
    have h14 : Hs [] (gY C y0 ++ (gY C y1 ++ [tB b, tL prs [.ref r0, .ref r1], tL pfo [.ref f0, .ref f1], tL pro [.ref o0, .ref o1], tL pso [.ref t0, .ref t1]])) _ := h13.sel [11, 8, 5, 2, 10, 7, 4, 1, 12, 9, 6, 3, 0] (by decide)
    have h15 := (Hs.group h14).swap
    have h16 : Hs [] (tG (gY C y0) :: (gY C y1 ++ [tB b, tL prs [.ref r0, .ref r1], tL pfo [.ref f0, .ref f1], tL pro [.ref o0, .ref o1], tL pso [.ref t0, .ref t1]])) _ := Hs.group h14
    have h17 : Hs [] (gY C y1 ++ [tB b, tL prs [.ref r0, .ref r1], tL pfo [.ref f0, .ref f1], tL pro [.ref o0, .ref o1], tL pso [.ref t0, .ref t1], tG (gY C y0)]) _ := h16.sel [1, 2, 3, 4, 5, 6, 7, 8, 9, 0] (by decide)
    have h18 : Hs [] (W09 C b prs pfo pro pso [y0, y1]) _ := (Hs.group h17).sel [1, 2, 3, 4, 5, 6, 0] (by decide)
    clear h1 h2 h3 h4 h5 h6 h7 h8 h9 h10 h11 h12 h13 h14 h15 h16 h17
    generalize upd _ pso _ = H5 at h18 ⊢
    -- the streams
    refine ⟨2, rfl, by decide, by decide, for_range (lo := 0) (n := 2) (fun i σ H' => ∃ (Y : List YX) (y6 y7 y8 y9 y10 y11 : Option V), σ = [some (.ref a), some (.ref b.1), some (.ref prs), some (.ref pfo), some (.ref pro), some (.ref pso), y6, y7, y8, y9, y10, y11] ∧ Hs [] (W09 C b prs pfo pro pso Y) H' ∧ Y.length = 2 ∧ (∀ j y, Y[j]? = some y → j < i → Good y) ∧ (∀ j y, Y[j]? = some y → i ≤ j → hall S00 y.heard = (y.S, y.fr) ∧ y.rr = [] ∧ y.heard = []))
      ⟨[y0, y1], none, none, none, none, none, none, rfl, h18, rfl, fun j y _ hj => absurd hj (Nat.not_lt_zero j), fun j y hj _ => ?_⟩ ?_ ?_⟩
    · match j, hj with
      | 0, hj => cases hj; exact ⟨rfl, rfl, rfl⟩
      | 1, hj => cases hj; exact ⟨rfl, rfl, rfl⟩
    · clear h18
      rintro i σ H1 hi ⟨Y, y6, y7, y8, y9, y10, y11, rfl, h1, hY, hG, hE⟩
      have hi2 : i < 2 := hi
      obtain ⟨y, hy⟩ : ∃ y, Y[i]? = some y := ⟨_, List.getElem?_eq_getElem (by omega)⟩
      obtain ⟨z, hz⟩ := other hY hy
      obtain ⟨hSt, hrr, hhd⟩ := hE i y hy (Nat.le_refl _)
      have h2 := open9 h1 hy hz
      refine ⟨_, rfl, b, 6, rfl, h2.bag, by decide, by decide, fun H3 m mv3 hB3 m0 m1 => ?_⟩
      have h3 : Hs [] (F09 C b prs pfo pro pso Y y z) H3 := h2.mv mv3 hB3
      clear h1 h2
      refine ⟨m, rfl, by omega, by omega, for_range (lo := 0) (n := m.toNat) (fun j σ H' => ∃ (rps : List Addr) (rr : List (List Int)) (y7 : Option V), σ = [some (.ref a), some (.ref b.1), some (.ref prs), some (.ref pfo), some (.ref pro), some (.ref pso), some (.int (0 + (i : Int))), y7, y8, y9, y10, y11] ∧ Hs [] (F09 C b prs pfo pro pso Y { y with rps := rps, rr := rr } z) H' ∧ rr.length = j ∧ (∀ r ∈ rr, Bits r ∧ 0 < r.length ∧ r.length ≤ 256))
        ⟨y.rps, y.rr, _, rfl, h3, by rw [hrr]; rfl, fun r hr => by rw [hrr] at hr; exact absurd hr List.not_mem_nil⟩ ?_ ?_⟩
      · clear h3
        rintro j σ H1 hj ⟨rps, rr, y7, rfl, h1, hrl, hrg⟩
        have hi0 : ((0 : Int) + (i : Int)) = (i : Int) := Int.zero_add _
        rw [hi0]
        have t3 := h1.get 3 rfl
        refine ⟨_, rfl, _, rfl, pro, _, _, _, rfl, rfl, SqL.of (h1.at 7 rfl), at_map hy, .inl ⟨rfl, _, SqL.of t3.1⟩, _, rfl, (by show 4 ≤ sizeLine; decide), fun p2 n2 => ?_⟩
        have h2 := h1.newU (o := .lst [.int 50, .int 50, .int 5, .int 256]) n2
        refine ⟨_, rfl, b, 4, rfl, h2.bag, by decide, by decide, fun H3 d mv3 hB3 d0 d1 => ?_⟩
        have h3 := h2.mv mv3 hB3
        obtain ⟨v, hv, hv0, hv1⟩ : ∃ v : Int, atI [V.int 50, .int 50, .int 5, .int 256] d = some (.int v) ∧ 0 < v ∧ v ≤ 256 := by
          have : d = 0 ∨ d = 1 ∨ d = 2 ∨ d = 3 := by omega
          rcases this with rfl | rfl | rfl | rfl
          · exact ⟨50, rfl, by decide, by decide⟩
          · exact ⟨50, rfl, by decide, by decide⟩
          · exact ⟨5, rfl, by decide, by decide⟩
          · exact ⟨256, rfl, by decide, by decide⟩
        refine ⟨p2, _, _, _, rfl, rfl, SqL.of (h3.at 1 rfl), hv, b, v, rfl, h3.bag, hv0, by omega, fun H4 p4 pn mv4 hB4 np4 e4 hb4 h04 hl4 => ?_⟩
        have h4 := h3.newM mv4 hB4 np4 e4
        have t5 := h4.get 5 rfl
        refine ⟨y.pr, _, _, rfl, rfl, t5.1, ?_, ?_⟩
        · rw [List.length_map, RowsAt.len t5.2.1, hrl]
          have : j < m.toNat := hj
          exact sz4l (by omega)
        have h5 := Hs.rowApp (h4.sel [1, 5, 0, 3, 4, 6, 7, 8, 9, 10, 11] (by decide))
        refine ⟨rps ++ [p4], rr ++ [pn], _, rfl, h5.sel [1, 2, 3, 0, 4, 5, 6, 7, 8, 9] (by decide), ?_, fun r hr => ?_⟩
        · rw [List.length_append, hrl]
          rfl
        · rcases List.mem_append.mp hr with hr | hr
          · exact hrg r hr
          · rw [List.mem_singleton.mp hr]
            exact ⟨hb4, h04, by omega⟩
      · clear h3
        rintro σ H1 ⟨rps, rr, y7, rfl, h1, hrl, hrg⟩
        have hi0 : ((0 : Int) + (i : Int)) = (i : Int) := Int.zero_add _
        rw [hi0]
        have t3 := h1.get 3 rfl
        refine ⟨_, rfl, _, rfl, _, rfl, _, rfl, pro, _, _, _, rfl, rfl, SqL.of (h1.at 7 rfl), at_map hy, b, y.pr, rps, rr, rfl, h1.bag, h1.ne 3 0 rfl rfl (.head _) (.head _), t3.1, t3.2.1, fun p hp => h1.ne 3 0 rfl rfl (.tail _ hp) (.head _), by omega, fun r hr => ⟨(hrg r hr).1, (hrg r hr).2.2⟩, fun H2 p2 ns2 mv2 hB2 np2 e2 hst => ?_⟩
        have h2 := h1.newM mv2 hB2 np2 e2
        have hso := hst.ok (fun r hr => ⟨(hrg r hr).1, (hrg r hr).2.2⟩)
        refine ⟨b, p2, ns2, rfl, h2.bag, h2.ne 1 0 rfl rfl (.head _) (.head _), h2.at 1 rfl, by omega, fun H3 pl ps parts mv3 hB3 epl rows3 hnew3 hnin3 hflat hpl => ?_⟩
        have h3 := h2.newRows mv3 hB3 epl rows3 hnew3 hnin3
        refine ⟨_, rfl, _, rfl, pso, _, _, i, rfl, rfl, h3.at 10 rfl, ixN_nat (by rw [List.length_map]; omega), ?_⟩
        have h4 := h3.put (o' := .lst ((Y.map fun y : YX => V.ref y.ps).set i (.ref pl))) 10 rfl
        have hw : i < Y.length := by omega
        have h5 : Hs [] (W09 C b prs pfo pro pso (Y.set i { y with rps := rps, rr := rr, ps := pl, sps := ps, parts := parts })) (upd H3 pso (.lst ((Y.map fun y : YX => V.ref y.ps).set i (.ref pl)))) := by
          exact shut9 { y with rps := rps, rr := rr, ps := pl, sps := ps, parts := parts } (h4.sel [0, 3, 4, 5, 1, 7, 8, 9, 10, 11] (by decide)) hw hz (map_set_same hy rfl) (map_set_same hy rfl) (map_set_same hy rfl) List.map_set
        refine ⟨_, _, _, _, _, _, _, rfl, h5, by rw [List.length_set]; exact hY, fun j y' hj hji => ?_, fun j y' hj hji => ?_⟩
        · rw [List.getElem?_set] at hj
          by_cases e : i = j
          · rw [if_pos e, if_pos (e ▸ hw)] at hj
            cases hj
            refine ⟨hSt, ?_, hrg, by show rr.length ≤ 5; omega⟩
            show Strm rr (y.heard ++ parts.flatten)
            rw [hhd, hflat]
            exact hst
          · rw [if_neg e] at hj
            exact hG j y' hj (by omega)
        · rw [List.getElem?_set, if_neg (by omega)] at hj
          exact hE j y' hj (by omega)
    · clear h18
      rintro σ H1 ⟨Y, y6, y7, y8, y9, y10, y11, rfl, h1, hY, hG, hE⟩
      have hG : ∀ y ∈ Y, Good y := fun y hy => by
        obtain ⟨j, hj⟩ := List.getElem?_of_mem hy
        exact hG j y hj (by have := (List.getElem?_eq_some_iff.mp hj).1; omega)
      clear hE
      -- by turns
      refine ⟨20, rfl, by decide, by decide, for_range (lo := 0) (n := 20) (fun i σ H' => ∃ (Y : List YX) (y6 y7 y8 y9 y10 y11 : Option V), σ = [some (.ref a), some (.ref b.1), some (.ref prs), some (.ref pfo), some (.ref pro), some (.ref pso), y6, y7, y8, y9, y10, y11] ∧ Hs [] (W09 C b prs pfo pro pso Y) H' ∧ Y.length = 2 ∧ ∀ y ∈ Y, Good y)
        ⟨Y, _, _, _, _, _, _, rfl, h1, hY, hG⟩ ?_ ?_⟩
      · clear h1 hY hG
        rintro i σ H1 hi ⟨Y, y6, y7, y8, y9, y10, y11, rfl, h1, hY, hG⟩
        refine asg_by (J := fun v H2 => ∃ w : Nat, v = .int (w : Int) ∧ w < 2 ∧ Hs [] (W09 C b prs pfo pro pso Y) H2) ?_ (fun rest => ?_)
        · clear h1
          rintro v H1 ⟨w, rfl, hw, h1⟩
          obtain ⟨y, hy⟩ : ∃ y, Y[w]? = some y := ⟨_, List.getElem?_eq_getElem (by omega)⟩
          obtain ⟨z, hz⟩ := other hY hy
          have hwl : w < Y.length := by omega
          have hg := hG y (List.mem_of_getElem? hy)
          have h2 := open9 h1 hy hz
          have t4 := h2.get 4 rfl
          refine ⟨_, rfl, _, rfl, pso, _, _, _, rfl, rfl, SqL.of (h2.at 8 rfl), at_map hy, Nat.zero_le _, fun p3 n3 => ?_⟩
          have h3 : Hs [] (F09 C b prs pfo pro pso Y y z) _ := h2.same (same_upd (o := .lst []) n3)
          have t4' := h3.get 4 rfl
          refine ⟨dRows y.parts, .list [], dp_rows t4'.1 t4'.2.1, .lst (SqL.of upd_same) .nil, shaped_rows _, rfl, _, rfl, ?_⟩
          generalize upd H1 p3 (.lst []) = H3 at h3 t4' ⊢
          have hcl : ∀ {H4 : Hp}, Hs [] (F09 C b prs pfo pro pso Y y z) H4 → Hs [] (W09 C b prs pfo pro pso Y) H4 := fun {H4} h => by
            have e : Y.set w y = Y := set_same hy
            have := close9 (Y := Y) (w := w) (y' := y) (z := z) (by rw [e]; exact h) hwl hz
            rwa [e] at this
          cases ep : y.parts with
          | nil =>
            refine ifF rfl ?_
            exact ⟨Y, _, _, _, _, _, _, rfl, hcl h3, hY, hG⟩
          | cons p0 parts' =>
            refine ifT rfl ?_
            clear h1 h2 t4
            rw [ep] at t4'
            obtain ⟨q0, sps', hsps⟩ : ∃ q0 sps', y.sps = q0 :: sps' := by
              cases h : y.sps with
              | nil => rw [h] at t4'; exact t4'.2.1.elim
              | cons q0 sps' => exact ⟨q0, sps', rfl⟩
            rw [hsps] at t4'
            obtain ⟨e41, ⟨e42, e43⟩, e44⟩ := t4'
            have hgl := hg.len
            have hseen := hg.seen
            rw [ep] at hgl
            have hflat : (p0 :: parts').flatten = p0 ++ parts'.flatten := rfl
            rw [hflat] at hgl
            have hp0b : Bits p0 := fun u hu => hgl.1 u (List.mem_append_right _ (List.mem_append_left _ hu))
            have hp0l : y.S.seen.length + p0.length ≤ 3018 := by
              have := hgl.2
              rw [List.length_append, List.length_append] at this
              rw [hseen]
              omega
            -- the part
            refine ⟨_, rfl, _, rfl, pso, _, _, _, rfl, rfl, SqL.of (h3.at 8 rfl), at_map hy, .inl ⟨rfl, _, SqL.of e41⟩, y.ps, _, 0, 0, .ref q0, rfl, rfl, e41, by decide, by decide, (by simp [seqIndex?]), rfl, ?_⟩
            have h4 : Hs [] [tB b, tRd C y.r y.l y.bh y.S, tRows y.pf y.fps y.fr, tRows y.pr y.rps y.rr, tRowsG y.ps (sps'.map V.ref) (q0 :: sps') (p0 :: parts'), tL prs (Y.map fun y : YX => V.ref y.r), tL pfo (Y.map fun y : YX => V.ref y.pf), tL pro (Y.map fun y : YX => V.ref y.pr), tL pso (Y.map fun y : YX => V.ref y.ps), tY C z] (upd H3 y.ps (.lst (((q0 :: sps').map V.ref).eraseIdx 0))) :=
              h3.op (F := [y.ps]) (T' := tRowsG y.ps (sps'.map V.ref) (q0 :: sps') (p0 :: parts')) 4 rfl ((MvF.refl _ _).upd (.head _)) (fun u hu => by rw [in1 hu]; exact .inl (.head _)) ⟨upd_same, RowsAt.loc (ps := q0 :: sps') (rs := p0 :: parts') (fun u hu o e => by rw [upd_ne (fun z : u = y.ps => e44 (by rw [← z]; exact hu))]; exact e) ⟨e42, e43⟩, e44⟩ (fun u hu => .inl (by rw [hsps]; exact hu))
            generalize upd H3 y.ps (.lst (((q0 :: sps').map V.ref).eraseIdx 0)) = H4 at h4 ⊢
            have e4q : H4 q0 = some (.lst (p0.map V.int)) := (h4.get 4 rfl).2.1.1
            refine ⟨_, rfl, q0, _, rfl, .inl (SqL.of e4q), fun ph nph => ?_⟩
            have h5 := h4.newU (o := .lst (p0.map V.int)) nph
            generalize upd H4 ph (.lst (p0.map V.int)) = H5 at h5 ⊢
            have hrd : RdP C y.r y.l y.bh y.S H5 := h5.get 2 rfl
            obtain ⟨dx, hins⟩ := hrd.1.ins
            refine ⟨_, rfl, _, rfl, prs, _, _, _, rfl, rfl, SqL.of (h5.at 6 rfl), at_map hy, y.r, dx, _, rfl, hins, rfl, _, rfl, y.r, y.l, y.bh, y.S, ph, p0, rfl, hrd, h5.at 1 rfl, h5.ne 1 2 rfl rfl (.head _) (.tail _ (.tail _ (.head _))), by omega, (fun _ H6 l6 bh6 pl6 ps6 mv6 hft6 rd6 epl6 rows6 hnew6 hnin6 => ?_), (fun i' u hu nb => (nb (hp0b u (List.mem_of_getElem? hu))).elim)⟩
            have h6 := h5.tookR (i := 2) rfl mv6 hft6 rd6 epl6 rows6 hnew6 hnin6
            have hps6 : ps6.length = (hall y.S p0).2.length := RowsAt.len rows6
            have hl2 : (hall y.S p0).2.length ≤ p0.length := by
              have := hall_len y.S p0 p0.length (Nat.le_refl _)
              rwa [List.take_length] at this
            clear h3 h4 h5 rows6 epl6 hnew6 mv6 hft6
            have t0 := h6.get 0 rfl
            have e6q : H6 q0 = some (.lst (p0.map V.int)) := (h6.get 6 rfl).2.1.1
            refine ⟨_, rfl, _, _, _, _, true, rfl, .ty "list", .base (.lst t0.1), kit_ty (by decide +kernel), _, rfl, iteF ?_⟩
            refine ⟨_, rfl, _, rfl, dI p0, dI p0, dp_ints (SqL.of (h6.at 2 rfl)), dp_ints (SqL.of e6q), shaped_ints _, shaped_ints _, _, rfl, ifF ?_ ?_⟩
            · rw [SeqAt.eqv_refl _ (SeqAt.canLay_of_shaped (shaped_ints _))]
              rfl
            generalize hrr2 : (hall y.S p0).2 = rows2 at h6 hps6 hl2 t0 ⊢
            -- what came out
            refine ⟨_, rfl, _, rfl, pfo, _, _, _, rfl, rfl, SqL.of (h6.at 8 rfl), at_map hy, _, rfl, pl6, rfl, ⟨_, SqL.of t0.1⟩, fun D nD => lc_list (K := K) (a := pl6) (xs := ps6.map V.ref) (fun j H' => ∃ cps : List Addr, Hs [] [tRows D cps (rows2.take j), tRows pl6 ps6 rows2, tB b, tL ph (p0.map V.int), tRd C y.r l6 bh6 (hall y.S p0).1, tRows y.pf y.fps y.fr, tRows y.pr y.rps y.rr, tRowsG y.ps (sps'.map V.ref) (q0 :: sps') (p0 :: parts'), tL prs (Y.map fun y : YX => V.ref y.r), tL pfo (Y.map fun y : YX => V.ref y.pf), tL pro (Y.map fun y : YX => V.ref y.pr), tL pso (Y.map fun y : YX => V.ref y.ps), tY C z] H') ⟨[], em h6 nD⟩ (fun j H' _ h => ?_) ?_ ?_⟩
            · obtain ⟨cps, h⟩ := h
              exact SqL.of (h.get 1 rfl).1
            · rintro j xv H7 hxv ⟨cps, h7⟩
              obtain ⟨pj, hpj, rfl⟩ : ∃ u, ps6[j]? = some u ∧ xv = .ref u := by
                rw [List.getElem?_map] at hxv
                cases e : ps6[j]? with
                | none => rw [e] at hxv; cases hxv
                | some u => rw [e] at hxv; exact ⟨u, rfl, (Option.some.inj hxv).symm⟩
              obtain ⟨rj, hrj, ej⟩ := RowsAt.at (h7.get 1 rfl).2.1 hpj
              refine ⟨rfl, tYes_by (iteT ?_)⟩
              refine ⟨_, rfl, pj, _, rfl, .inl (SqL.of ej), fun pc nc => ?_⟩
              have h8 := h7.newHU (o := .lst (rj.map V.int)) nc
              refine ⟨_, (h8.get 1 rfl).1, ?_, cps ++ [pc], ?_⟩
              · rw [List.length_map, RowsAt.len (h8.get 1 rfl).2.1, List.length_take]
                exact sz4l (by omega)
              · rw [take_more hrj]
                exact Hs.rowApp h8
            · rintro H7 ⟨cps, h7⟩
              rw [List.length_map, hps6, List.take_length] at h7
              have t5 := h7.get 5 rfl
              have t0 := h7.get 0 rfl
              have hfrl := fr_len hg
              have ecat : y.fps.map V.ref ++ cps.map V.ref = (y.fps ++ cps).map V.ref := (List.map_append ..).symm
              refine ⟨y.pf, D, _, _, rfl, rfl, t5.1, t0.1, ?_, fun p8 n8 => ?_⟩
              · rw [List.length_map, List.length_map, RowsAt.len t5.2.1, RowsAt.len t0.2.1]
                exact sz4 (by omega)
              rw [ecat]
              have h8 := h7.newHU (o := .lst ((y.fps ++ cps).map V.ref)) n8
              generalize upd H7 p8 (.lst ((y.fps ++ cps).map V.ref)) = H8 at h8 ⊢
              refine ⟨_, rfl, _, rfl, pfo, _, _, w, rfl, rfl, h8.at 10 rfl, ixN_nat (by rw [List.length_map]; omega), ?_⟩
              have h9 := h8.put (o' := .lst ((Y.map fun y : YX => V.ref y.pf).set w (.ref p8))) 10 rfl
              generalize upd H8 pfo (.lst ((Y.map fun y : YX => V.ref y.pf).set w (.ref p8))) = H9 at h9 ⊢
              have h10 := Hs.rowsCat (h9.sel [0, 1, 6, 2, 3, 4, 5, 7, 8, 9, 10, 11, 12, 13] (by decide))
              clear h6 h7 h8 h9
              -- spoilt
              have u1 := h10.get 1 rfl
              refine ⟨_, rfl, .inl ⟨rfl, _, SqL.of u1.1⟩, pl6, _, _, rfl, rfl, u1.1, ?_, ?_⟩
              · rw [List.length_map, hps6]
                exact sz4l (by omega)
              have h11 := h10.op (F := [pl6]) (T' := tRowsG pl6 (ps6.map V.ref ++ [.str "x"]) ps6 rows2) 1 rfl ((MvF.refl _ _).upd (o := .lst (ps6.map V.ref ++ [.str "x"])) (.head _)) (fun u hu => by rw [in1 hu]; exact .inl (.head _)) ⟨upd_same, RowsAt.loc (fun u hu o e => by rw [upd_ne (fun z : u = pl6 => u1.2.2 (by rw [← z]; exact hu))]; exact e) u1.2.1, u1.2.2⟩ (fun u hu => .inl hu)
              refine ⟨_, rfl, .inl ⟨rfl, _, SqL.of (h11.at 3 rfl)⟩, ph, _, rfl, rfl, h11.at 3 rfl, ?_⟩
              have h12 := h11.put (o' := .lst (p0.map V.int).reverse) 3 rfl
              have u6 := h12.get 6 rfl
              have h13 := h12.op (F := []) (T' := tRows y.ps sps' parts') 6 rfl (MvF.refl _ _) (fun u hu => absurd hu List.not_mem_nil) ⟨u6.1, u6.2.1.2, fun z => u6.2.2 (.tail _ z)⟩ (fun u hu => .inl (by
                rcases List.mem_cons.mp hu with rfl | hu
                · exact .head _
                · exact .tail _ (.tail _ hu)))
              have hst := hg.step ep (l := l6) (bh := bh6) (pf := p8) (q := y.ps) (fps := y.fps ++ cps) (sps := sps')
              rw [hrr2] at hst
              refine ⟨Y.set w { y with l := l6, bh := bh6, S := (hall y.S p0).1, pf := p8, fps := y.fps ++ cps, fr := y.fr ++ rows2, ps := y.ps, sps := sps', parts := parts', heard := y.heard ++ p0 }, _, _, _, _, _, _, rfl, ?_, by rw [List.length_set]; exact hY, fun y' hy' => ?_⟩
              · exact shut9 { y with l := l6, bh := bh6, S := (hall y.S p0).1, pf := p8, fps := y.fps ++ cps, fr := y.fr ++ rows2, ps := y.ps, sps := sps', parts := parts', heard := y.heard ++ p0 } (h13.sel [2, 4, 0, 5, 6, 7, 8, 9, 10, 11] (by decide)) hwl hz (map_set_same hy rfl) List.map_set (map_set_same hy rfl) (map_set_same hy rfl)
              · rcases List.mem_or_eq_of_mem_set hy' with z1 | z1
                · exact hG y' z1
                · rw [z1]
                  exact hst
        · -- which
          refine ⟨_, rfl, _, _, rfl, rfl, _, rfl, ite2 (fun e => ?_) (fun e => ?_)⟩
          · refine ⟨_, rfl, b, 2, rfl, h1.bag, by decide, by decide, fun H2 d mv2 hB2 d0 d1 => ?_⟩
            exact rest _ _ ⟨d.toNat, by rw [Int.toNat_of_nonneg d0], by omega, h1.mv mv2 hB2⟩
          · refine ⟨_, rfl, _, _, rfl, rfl, (by show (0 : Int) < 2; decide), ?_⟩
            exact rest _ _ ⟨i % 2, by rw [Int.zero_add]; congr 1, Nat.mod_lt _ (by decide), h1⟩
      · clear h1 hY hG
        rintro σ H1 ⟨Y, y6, y7, y8, y9, y10, y11, rfl, h1, hY, hG⟩
        -- the rest
        refine ⟨2, rfl, by decide, by decide, for_range (lo := 0) (n := 2) (fun i σ H' => ∃ (Y : List YX) (y6 y7 y8 y9 y10 y11 : Option V), σ = [some (.ref a), some (.ref b.1), some (.ref prs), some (.ref pfo), some (.ref pro), some (.ref pso), y6, y7, y8, y9, y10, y11] ∧ Hs [] (W09 C b prs pfo pro pso Y) H' ∧ Y.length = 2 ∧ ∀ j y, Y[j]? = some y → i ≤ j → Good y)
          ⟨Y, _, _, _, _, _, _, rfl, h1, hY, fun j y hj _ => hG y (List.mem_of_getElem? hj)⟩ ?_ ?_⟩
        · clear h1 hY hG
          rintro w σ H1 hw2 ⟨Y, y6, y7, y8, y9, y10, y11, rfl, h1, hY, hG⟩
          have hw2 : w < 2 := hw2
          have hi0 : ((0 : Int) + (w : Int)) = (w : Int) := Int.zero_add _
          rw [hi0]
          obtain ⟨y, hy⟩ : ∃ y, Y[w]? = some y := ⟨_, List.getElem?_eq_getElem (by omega)⟩
          obtain ⟨z, hz⟩ := other hY hy
          have hwl : w < Y.length := by omega
          have hg := hG w y hy (Nat.le_refl _)
          have h2 := open9 h1 hy hz
          have t4 := h2.get 4 rfl
          have hsp : y.sps.length = y.parts.length := RowsAt.len t4.2.1
          refine ⟨_, rfl, _, rfl, pso, _, _, _, rfl, rfl, SqL.of (h2.at 8 rfl), at_map hy, y.ps, rfl, ⟨_, SqL.of t4.1⟩, for_list (K := K) (a := y.ps) (xs := y.sps.map V.ref) (fun j σ H' => ∃ (l bh : Addr) (S : LS) (pf : Addr) (fps : List Addr) (fr : List (List Int)) (y8 : Option V), σ = [some (.ref a), some (.ref b.1), some (.ref prs), some (.ref pfo), some (.ref pro), some (.ref pso), some (.int (w : Int)), y7, y8, y9, y10, y11] ∧
              Hs [] [tB b, tRd C y.r l bh S, tRows pf fps fr, tRows y.pr y.rps y.rr, tRows y.ps y.sps y.parts, tL prs (Y.map fun y : YX => V.ref y.r), tL pfo ((Y.map fun y : YX => V.ref y.pf).set w (.ref pf)), tL pro (Y.map fun y : YX => V.ref y.pr), tL pso (Y.map fun y : YX => V.ref y.ps), tY C z] H' ∧ Good { y with l := l, bh := bh, S := S, pf := pf, fps := fps, fr := fr, parts := y.parts.drop j, heard := y.heard ++ (y.parts.take j).flatten })
            ⟨y.l, y.bh, y.S, y.pf, y.fps, y.fr, _, rfl, ?_, ?_⟩ (fun j σ H' _ h => ?_) ?_ ?_⟩
          · rw [← List.map_set (f := fun y : YX => V.ref y.pf) (a := y), set_same hy]
            exact h2
          · show Good { y with heard := y.heard ++ [] }
            rw [List.append_nil]
            exact hg
          · obtain ⟨l, bh, S, pf, fps, fr, y8, _, h, _⟩ := h
            exact SqL.of (h.get 4 rfl).1
          · clear h1 h2 t4
            rintro j xv σ H1 hxv ⟨l, bh, S, pf, fps, fr, y8, rfl, h1, hgj⟩
            obtain ⟨pj, hpj, rfl⟩ : ∃ u, y.sps[j]? = some u ∧ xv = .ref u := by
              rw [List.getElem?_map] at hxv
              cases e : y.sps[j]? with
              | none => rw [e] at hxv; cases hxv
              | some u => rw [e] at hxv; exact ⟨u, rfl, (Option.some.inj hxv).symm⟩
            have hpm : pj ∈ y.sps := List.mem_of_getElem? hpj
            obtain ⟨rj, hrj, ej⟩ := RowsAt.at (h1.get 4 rfl).2.1 hpj
            have hdr := drop_at hrj
            have hgl := hgj.len
            have hseen : S.seen = y.heard ++ (y.parts.take j).flatten := hgj.seen
            have e1 : ({ y with l := l, bh := bh, S := S, pf := pf, fps := fps, fr := fr, parts := y.parts.drop j, heard := y.heard ++ (y.parts.take j).flatten } : YX).parts = rj :: y.parts.drop (j + 1) := hdr
            rw [e1] at hgl
            have hflat : (rj :: y.parts.drop (j + 1)).flatten = rj ++ (y.parts.drop (j + 1)).flatten := rfl
            rw [hflat] at hgl
            have hp0b : Bits rj := fun u hu => hgl.1 u (List.mem_append_right _ (List.mem_append_left _ hu))
            have hp0l : S.seen.length + rj.length ≤ 3018 := by
              have : (y.heard ++ (y.parts.take j).flatten ++ (rj ++ (y.parts.drop (j + 1)).flatten)).length ≤ 3018 := hgl.2
              rw [hseen]
              rw [List.length_append, List.length_append (as := rj)] at this
              omega
            have hfrl := fr_len hgj
            have hfrl1 : fr.length ≤ 3018 := hfrl.1
            have atF : atI ((Y.map fun y : YX => V.ref y.pf).set w (.ref pf)) (w : Int) = some (.ref pf) := atI_nat (by rw [List.getElem?_set, if_pos rfl, if_pos (by rw [List.length_map]; exact hwl)])
            have hrd : RdP C y.r l bh S H1 := h1.get 1 rfl
            obtain ⟨dx, hins⟩ := hrd.1.ins
            refine ⟨_, rfl, _, rfl, pfo, _, _, _, rfl, rfl, SqL.of (h1.at 6 rfl), atF, ?_⟩
            refine ⟨_, rfl, _, rfl, prs, _, _, _, rfl, rfl, SqL.of (h1.at 5 rfl), at_map hy, y.r, dx, _, rfl, hins, rfl, _, rfl, y.r, l, bh, S, pj, rj, rfl, hrd, ej, h1.ne 4 1 rfl rfl (.tail _ hpm) (.tail _ (.tail _ (.head _))), by omega, (fun _ H6 l6 bh6 pl6 ps6 mv6 hft6 rd6 epl6 rows6 hnew6 hnin6 => ?_), (fun i' u hu nb => (nb (hp0b u (List.mem_of_getElem? hu))).elim)⟩
            have h6 := h1.tookR (i := 1) rfl mv6 hft6 rd6 epl6 rows6 hnew6 hnin6
            have hps6 : ps6.length = (hall S rj).2.length := RowsAt.len rows6
            have hl2 : (hall S rj).2.length ≤ rj.length := by
              have := hall_len S rj rj.length (Nat.le_refl _)
              rwa [List.take_length] at this
            clear h1 rows6 epl6 hnew6 mv6 hft6
            have t0 := h6.get 0 rfl
            have t3 := h6.get 3 rfl
            have ecat : fps.map V.ref ++ ps6.map V.ref = (fps ++ ps6).map V.ref := (List.map_append ..).symm
            refine ⟨pf, pl6, _, _, rfl, rfl, t3.1, t0.1, ?_, fun p8 n8 => ?_⟩
            · rw [List.length_map, List.length_map, RowsAt.len t3.2.1, RowsAt.len t0.2.1]
              exact sz4 (by omega)
            rw [ecat]
            have h8 := h6.newHU (o := .lst ((fps ++ ps6).map V.ref)) n8
            generalize upd H6 p8 (.lst ((fps ++ ps6).map V.ref)) = H8 at h8 ⊢
            refine ⟨_, rfl, _, rfl, pfo, _, _, w, rfl, rfl, h8.at 8 rfl, ixN_nat (by rw [List.length_set, List.length_map]; omega), ?_⟩
            rw [List.set_set]
            have h9 := h8.put (o' := .lst ((Y.map fun y : YX => V.ref y.pf).set w (.ref p8))) 8 rfl
            have h10 := (Hs.rowsCat (h9.sel [0, 1, 4, 2, 3, 5, 6, 7, 8, 9, 10, 11] (by decide))).sel [1, 2, 0, 3, 4, 5, 6, 7, 8, 9] (by decide)
            have hst := hgj.step e1 (l := l6) (bh := bh6) (pf := p8) (q := y.ps) (fps := fps ++ ps6) (sps := y.sps)
            refine ⟨l6, bh6, (hall S rj).1, p8, fps ++ ps6, fr ++ (hall S rj).2, _, rfl, ?_, ?_⟩
            · exact h10
            · have e2 : y.heard ++ (y.parts.take (j + 1)).flatten = y.heard ++ (y.parts.take j).flatten ++ rj := by
                rw [take_more hrj, List.flatten_append, List.append_assoc]
                show _ = y.heard ++ ((y.parts.take j).flatten ++ rj)
                congr 2
                show rj ++ [] = rj
                rw [List.append_nil]
              rw [e2]
              exact hst
          · clear h1 h2 t4
            rintro σ H1 ⟨l, bh, S, pf, fps, fr, y8, rfl, h1, hgj⟩
            rw [List.length_map, hsp, List.take_length, List.drop_length] at hgj
            obtain ⟨hfr, hh0⟩ := hgj.fin rfl
            have hfr : fr = y.rr := hfr
            have hh0 : S.hurt = 0 := hh0
            have t2 := h1.get 2 rfl
            have t3 := h1.get 3 rfl
            have atF : atI ((Y.map fun y : YX => V.ref y.pf).set w (.ref pf)) (w : Int) = some (.ref pf) := atI_nat (by rw [List.getElem?_set, if_pos rfl, if_pos (by rw [List.length_map]; exact hwl)])
            refine ⟨_, rfl, _, rfl, pfo, _, _, _, rfl, rfl, SqL.of (h1.at 6 rfl), atF, _, rfl, _, rfl, pro, _, _, _, rfl, rfl, SqL.of (h1.at 7 rfl), at_map hy, .ref pf, .ref y.pr, dRows y.rr, rfl, ?_, dp_rows t3.1 t3.2.1, dn_rows (by have := hg.2.2.2; omega) (fun r hr => Nat.le_trans (hg.2.2.1 r hr).2.2 (by decide)) n, shaped_rows _, fun H2 s2 => ?_⟩
            · rw [← hfr]
              exact dp_rows t2.1 t2.2.1
            have h2 := h1.same s2
            have hrd : RdP C y.r l bh S H2 := h2.get 1 rfl
            obtain ⟨dx, hins⟩ := hrd.1.ins
            refine ⟨_, rfl, iteF ?_⟩
            refine ⟨_, rfl, _, rfl, prs, _, _, _, rfl, rfl, SqL.of (h2.at 5 rfl), at_map hy, y.r, dx, _, rfl, hins, rfl, y.r, l, bh, S, rfl, hrd.1, .int (S.hurt : Int), .int 0, .int 0, rfl, by rw [hh0]; exact .int 0, .int 0, .inr (.inl ⟨_, rfl⟩), rfl, fun H3 s3 => ?_⟩
            have h3 := h2.same s3
            refine ⟨_, rfl, iteF ⟨Y.set w { y with l := l, bh := bh, S := S, pf := pf, fps := fps, fr := fr, parts := y.parts, heard := y.heard ++ y.parts.flatten }, _, _, _, _, _, _, rfl, ?_, by rw [List.length_set]; exact hY, fun j' y' hj' hle => ?_⟩⟩
            · exact shut9 { y with l := l, bh := bh, S := S, pf := pf, fps := fps, fr := fr, parts := y.parts, heard := y.heard ++ y.parts.flatten } h3 hwl hz (map_set_same hy rfl) List.map_set (map_set_same hy rfl) (map_set_same hy rfl)
            · rw [List.getElem?_set, if_neg (by omega)] at hj'
              exact hG j' y' hj' (by omega)
        · rintro σ H1 ⟨Y, y6, y7, y8, y9, y10, y11, rfl, h1, _⟩
          exact q H1
end
/-! ### the end -/
theorem all_mk {l : PySem.W.OpenLaw} {w : World} {K : PySem.W.Frag} {h : Heap} {mg : Str → Option Value} {fa f0 f1 f2 f3 f4 f5 f6 f7 f8 f9 f10 f11 f12 f13 f14 f15 f16 f17 f18 f19 f20 f21 f22 f23 : Addr} (X : K.In h) (G : h.Ns mainGlobals mg) (hfa : mg "law" = some (.ref fa))
    {cReader : Addr}
    {oc0 : Value} {od0 an0 : Option Addr} {sl0 : Array (Option Value)} {kV0 dc0 pm0 cd0 ct0 : Value}
    {oc1 : Value} {od1 an1 : Option Addr} {sl1 : Array (Option Value)} {kV1 dc1 pm1 cd1 ct1 : Value}
    {oc2 : Value} {od2 an2 : Option Addr} {sl2 : Array (Option Value)} {kV2 dc2 pm2 cd2 ct2 : Value}
    {oc3 : Value} {od3 an3 : Option Addr} {sl3 : Array (Option Value)} {kV3 dc3 pm3 cd3 ct3 : Value}
    {oc4 : Value} {od4 an4 : Option Addr} {sl4 : Array (Option Value)} {kV4 dc4 pm4 cd4 ct4 : Value}
    {oc5 : Value} {od5 an5 : Option Addr} {sl5 : Array (Option Value)} {kV5 dc5 pm5 cd5 ct5 : Value}
    {oc6 : Value} {od6 an6 : Option Addr} {sl6 : Array (Option Value)} {kV6 dc6 pm6 cd6 ct6 : Value}
    {oc7 : Value} {od7 an7 : Option Addr} {sl7 : Array (Option Value)} {kV7 dc7 pm7 cd7 ct7 : Value}
    {oc8 : Value} {od8 an8 : Option Addr} {sl8 : Array (Option Value)} {kV8 dc8 pm8 cd8 ct8 : Value}
    {oc9 : Value} {od9 an9 : Option Addr} {sl9 : Array (Option Value)} {kV9 dc9 pm9 cd9 ct9 : Value}
    {oc10 : Value} {od10 an10 : Option Addr} {sl10 : Array (Option Value)} {kV10 dc10 pm10 cd10 ct10 : Value}
    {oc11 : Value} {od11 an11 : Option Addr} {sl11 : Array (Option Value)} {kV11 dc11 pm11 cd11 ct11 : Value}
    {oc12 : Value} {od12 an12 : Option Addr} {sl12 : Array (Option Value)} {kV12 dc12 pm12 cd12 ct12 : Value}
    {oc13 : Value} {od13 an13 : Option Addr} {sl13 : Array (Option Value)} {kV13 dc13 pm13 cd13 ct13 : Value}
    {oc14 : Value} {od14 an14 : Option Addr} {sl14 : Array (Option Value)} {kV14 dc14 pm14 cd14 ct14 : Value}
    {oc15 : Value} {od15 an15 : Option Addr} {sl15 : Array (Option Value)} {kV15 dc15 pm15 cd15 ct15 : Value}
    {oc16 : Value} {od16 an16 : Option Addr} {sl16 : Array (Option Value)} {kV16 dc16 pm16 cd16 ct16 : Value}
    {oc17 : Value} {od17 an17 : Option Addr} {sl17 : Array (Option Value)} {kV17 dc17 pm17 cd17 ct17 : Value}
    {oc18 : Value} {od18 an18 : Option Addr} {sl18 : Array (Option Value)} {kV18 dc18 pm18 cd18 ct18 : Value}
    {oc19 : Value} {od19 an19 : Option Addr} {sl19 : Array (Option Value)} {kV19 dc19 pm19 cd19 ct19 : Value}
    {oc20 : Value} {od20 an20 : Option Addr} {sl20 : Array (Option Value)} {kV20 dc20 pm20 cd20 ct20 : Value}
    {oc21 : Value} {od21 an21 : Option Addr} {sl21 : Array (Option Value)} {kV21 dc21 pm21 cd21 ct21 : Value}
    {oc22 : Value} {od22 an22 : Option Addr} {sl22 : Array (Option Value)} {kV22 dc22 pm22 cd22 ct22 : Value}
    {oc23 : Value} {od23 an23 : Option Addr} {sl23 : Array (Option Value)} {kV23 dc23 pm23 cd23 ct23 : Value}
    {cLE fLE dLE : Addr} {ocLE : Value} {odLE anLE : Option Addr} {slLE : Array (Option Value)} {kVLE dcLE pmLE cdLE ctLE : Value} {oD : Option Addr} {mD : Nat} {slD : Array (Option Value)} {tD1 tD2 : Tok}
    {xBadBit : Addr}
    {xBadFrame : Addr}
    {fIBadBit : Addr} {nmBadBit qBadBit : Str} {NBadBit : Addr} {bsBadBit bmBadBit : List Value} {snBadBit : List Str} {subBadBit : List Value} {abBadBit : Bool} {colBadBit : Option Bool} {ddBadBit : Option Addr} {kaBadBit kbBadBit kcBadBit kdBadBit keBadBit : Option Value}
    {ocBadBit : Value} {odBadBit anBadBit : Option Addr} {slBadBit : Array (Option Value)} {kVBadBit dcBadBit pmBadBit cdBadBit ctBadBit : Value}
    {fIBadFrame : Addr} {nmBadFrame qBadFrame : Str} {NBadFrame : Addr} {bsBadFrame bmBadFrame : List Value} {snBadFrame : List Str} {subBadFrame : List Value} {abBadFrame : Bool} {colBadFrame : Option Bool} {ddBadFrame : Option Addr} {kaBadFrame kbBadFrame kcBadFrame kdBadFrame keBadFrame : Option Value}
    {ocBadFrame : Value} {odBadFrame anBadFrame : Option Addr} {slBadFrame : Array (Option Value)} {kVBadFrame dcBadFrame pmBadFrame cdBadFrame ctBadFrame : Value}
    {t_SEAL : Tok}
    {a_TURNED : Addr} {o_TURNED : Option Addr} {m_TURNED : Nat} {sl_TURNED : Array (Option Value)} {t_TURNED0 t_TURNED1 t_TURNED2 : Tok}
    {t_MOST_ONES : Tok}
    {t_LONGEST : Tok}
    {t_MOST_OPEN : Tok}
    {a_MARK : Addr} {o_MARK : Option Addr} {m_MARK : Nat} {sl_MARK : Array (Option Value)} {t_MARK0 t_MARK1 t_MARK2 t_MARK3 t_MARK4 t_MARK5 t_MARK6 t_MARK7 : Tok}
    (r1Reader : PySem.W.nsIn K mainGlobals "Reader" = some (some (.ref cReader)))
    (r2Reader : PySem.W.plainGet K cReader Str.empty = true)
    (r3Reader : PySem.W.hasDictIn K cReader = true)
    (r4Reader : PySem.W.plainOver K cReader = true)
    (r5Reader : PySem.W.findIn K (.ref cReader) "__setattr__" = some (some (.builtin "object.__setattr__")))
    (r6Reader : PySem.W.makesIn K cReader = true)
    (r7Reader : PySem.W.keepIn K (.ref cReader) = true)
    (r_Reader_last : PySem.W.findIn K (.ref cReader) "last" = some none)
    (r_Reader_behind : PySem.W.findIn K (.ref cReader) "behind" = some none)
    (r_Reader_spoilt : PySem.W.findIn K (.ref cReader) "spoilt" = some none)
    (a0 : PySem.W.nsIn K mainGlobals "check_bits" = some (some (.ref f0)))
    (l0 : K.lookup f0 = some ⟨oc0, od0, .func (PySem.W.fnOf "check_bits" "check_bits" (defArgs s_check_bits) (defBody s_check_bits) (defScope s_check_bits) .none kV0 dc0 pm0 an0 cd0 ct0), sl0⟩)
    (c0 : PySem.W.codeIn K cd0 "check_bits" = true)
    (k0 : PySem.W.keepIn K (.ref f0) = true)
    (a1 : PySem.W.nsIn K mainGlobals "moved_on" = some (some (.ref f1)))
    (l1 : K.lookup f1 = some ⟨oc1, od1, .func (PySem.W.fnOf "moved_on" "moved_on" (defArgs s_moved_on) (defBody s_moved_on) (defScope s_moved_on) .none kV1 dc1 pm1 an1 cd1 ct1), sl1⟩)
    (c1 : PySem.W.codeIn K cd1 "moved_on" = true)
    (k1 : PySem.W.keepIn K (.ref f1) = true)
    (a2 : PySem.W.nsIn K mainGlobals "seal_of" = some (some (.ref f2)))
    (l2 : K.lookup f2 = some ⟨oc2, od2, .func (PySem.W.fnOf "seal_of" "seal_of" (defArgs s_seal_of) (defBody s_seal_of) (defScope s_seal_of) .none kV2 dc2 pm2 an2 cd2 ct2), sl2⟩)
    (c2 : PySem.W.codeIn K cd2 "seal_of" = true)
    (k2 : PySem.W.keepIn K (.ref f2) = true)
    (a3 : PySem.W.nsIn K mainGlobals "holds" = some (some (.ref f3)))
    (l3 : K.lookup f3 = some ⟨oc3, od3, .func (PySem.W.fnOf "holds" "holds" (defArgs s_holds) (defBody s_holds) (defScope s_holds) .none kV3 dc3 pm3 an3 cd3 ct3), sl3⟩)
    (c3 : PySem.W.codeIn K cd3 "holds" = true)
    (k3 : PySem.W.keepIn K (.ref f3) = true)
    (a4 : PySem.W.nsIn K mainGlobals "unstuffed" = some (some (.ref f4)))
    (l4 : K.lookup f4 = some ⟨oc4, od4, .func (PySem.W.fnOf "unstuffed" "unstuffed" (defArgs s_unstuffed) (defBody s_unstuffed) (defScope s_unstuffed) .none kV4 dc4 pm4 an4 cd4 ct4), sl4⟩)
    (c4 : PySem.W.codeIn K cd4 "unstuffed" = true)
    (k4 : PySem.W.keepIn K (.ref f4) = true)
    (a5 : PySem.W.nsIn K mainGlobals "payload_between" = some (some (.ref f5)))
    (l5 : K.lookup f5 = some ⟨oc5, od5, .func (PySem.W.fnOf "payload_between" "payload_between" (defArgs s_payload_between) (defBody s_payload_between) (defScope s_payload_between) .none kV5 dc5 pm5 an5 cd5 ct5), sl5⟩)
    (c5 : PySem.W.codeIn K cd5 "payload_between" = true)
    (k5 : PySem.W.keepIn K (.ref f5) = true)
    (a6 : PySem.W.findIn K (.ref cReader) "__init__" = some (some (.ref f6)))
    (i6 : PySem.W.isFn K (.ref f6) = true)
    (l6 : K.lookup f6 = some ⟨oc6, od6, .func (PySem.W.fnOf "__init__" "Reader.__init__" (defArgs m_Reader___init__) (defBody m_Reader___init__) (defScope m_Reader___init__) .none kV6 dc6 pm6 an6 cd6 ct6), sl6⟩)
    (c6 : PySem.W.codeIn K cd6 "Reader.__init__" = true)
    (k6 : PySem.W.keepIn K (.ref f6) = true)
    (a7 : PySem.W.findIn K (.ref cReader) "pass_mark" = some (some (.ref f7)))
    (i7 : PySem.W.isFn K (.ref f7) = true)
    (l7 : K.lookup f7 = some ⟨oc7, od7, .func (PySem.W.fnOf "pass_mark" "Reader.pass_mark" (defArgs m_Reader_pass_mark) (defBody m_Reader_pass_mark) (defScope m_Reader_pass_mark) .none kV7 dc7 pm7 an7 cd7 ct7), sl7⟩)
    (c7 : PySem.W.codeIn K cd7 "Reader.pass_mark" = true)
    (k7 : PySem.W.keepIn K (.ref f7) = true)
    (a8 : PySem.W.findIn K (.ref cReader) "take_bit" = some (some (.ref f8)))
    (i8 : PySem.W.isFn K (.ref f8) = true)
    (l8 : K.lookup f8 = some ⟨oc8, od8, .func (PySem.W.fnOf "take_bit" "Reader.take_bit" (defArgs m_Reader_take_bit) (defBody m_Reader_take_bit) (defScope m_Reader_take_bit) .none kV8 dc8 pm8 an8 cd8 ct8), sl8⟩)
    (c8 : PySem.W.codeIn K cd8 "Reader.take_bit" = true)
    (k8 : PySem.W.keepIn K (.ref f8) = true)
    (a9 : PySem.W.findIn K (.ref cReader) "take" = some (some (.ref f9)))
    (i9 : PySem.W.isFn K (.ref f9) = true)
    (l9 : K.lookup f9 = some ⟨oc9, od9, .func (PySem.W.fnOf "take" "Reader.take" (defArgs m_Reader_take) (defBody m_Reader_take) (defScope m_Reader_take) .none kV9 dc9 pm9 an9 cd9 ct9), sl9⟩)
    (c9 : PySem.W.codeIn K cd9 "Reader.take" = true)
    (k9 : PySem.W.keepIn K (.ref f9) = true)
    (a10 : PySem.W.findIn K (.ref cReader) "hurt" = some (some (.ref f10)))
    (i10 : PySem.W.isFn K (.ref f10) = true)
    (l10 : K.lookup f10 = some ⟨oc10, od10, .func (PySem.W.fnOf "hurt" "Reader.hurt" (defArgs m_Reader_hurt) (defBody m_Reader_hurt) (defScope m_Reader_hurt) .none kV10 dc10 pm10 an10 cd10 ct10), sl10⟩)
    (c10 : PySem.W.codeIn K cd10 "Reader.hurt" = true)
    (k10 : PySem.W.keepIn K (.ref f10) = true)
    (a11 : PySem.W.nsIn K mainGlobals "_law_bag" = some (some (.ref f11)))
    (l11 : K.lookup f11 = some ⟨oc11, od11, .func (PySem.W.fnOf "_law_bag" "_law_bag" (defArgs s__law_bag) (defBody s__law_bag) (defScope s__law_bag) .none kV11 dc11 pm11 an11 cd11 ct11), sl11⟩)
    (c11 : PySem.W.codeIn K cd11 "_law_bag" = true)
    (k11 : PySem.W.keepIn K (.ref f11) = true)
    (a12 : PySem.W.nsIn K mainGlobals "_law_pick" = some (some (.ref f12)))
    (l12 : K.lookup f12 = some ⟨oc12, od12, .func (PySem.W.fnOf "_law_pick" "_law_pick" (defArgs s__law_pick) (defBody s__law_pick) (defScope s__law_pick) .none kV12 dc12 pm12 an12 cd12 ct12), sl12⟩)
    (c12 : PySem.W.codeIn K cd12 "_law_pick" = true)
    (k12 : PySem.W.keepIn K (.ref f12) = true)
    (a13 : PySem.W.nsIn K mainGlobals "_law_same" = some (some (.ref f13)))
    (l13 : K.lookup f13 = some ⟨oc13, od13, .func (PySem.W.fnOf "_law_same" "_law_same" (defArgs s__law_same) (defBody s__law_same) (defScope s__law_same) .none kV13 dc13 pm13 an13 cd13 ct13), sl13⟩)
    (c13 : PySem.W.codeIn K cd13 "_law_same" = true)
    (k13 : PySem.W.keepIn K (.ref f13) = true)
    (a14 : PySem.W.nsIn K mainGlobals "_law_written" = some (some (.ref f14)))
    (l14 : K.lookup f14 = some ⟨oc14, od14, .func (PySem.W.fnOf "_law_written" "_law_written" (defArgs s__law_written) (defBody s__law_written) (defScope s__law_written) .none kV14 dc14 pm14 an14 cd14 ct14), sl14⟩)
    (c14 : PySem.W.codeIn K cd14 "_law_written" = true)
    (k14 : PySem.W.keepIn K (.ref f14) = true)
    (a15 : PySem.W.nsIn K mainGlobals "_law_bits" = some (some (.ref f15)))
    (l15 : K.lookup f15 = some ⟨oc15, od15, .func (PySem.W.fnOf "_law_bits" "_law_bits" (defArgs s__law_bits) (defBody s__law_bits) (defScope s__law_bits) .none kV15 dc15 pm15 an15 cd15 ct15), sl15⟩)
    (c15 : PySem.W.codeIn K cd15 "_law_bits" = true)
    (k15 : PySem.W.keepIn K (.ref f15) = true)
    (a16 : PySem.W.nsIn K mainGlobals "_law_seal" = some (some (.ref f16)))
    (l16 : K.lookup f16 = some ⟨oc16, od16, .func (PySem.W.fnOf "_law_seal" "_law_seal" (defArgs s__law_seal) (defBody s__law_seal) (defScope s__law_seal) .none kV16 dc16 pm16 an16 cd16 ct16), sl16⟩)
    (c16 : PySem.W.codeIn K cd16 "_law_seal" = true)
    (k16 : PySem.W.keepIn K (.ref f16) = true)
    (a17 : PySem.W.nsIn K mainGlobals "_law_stuffed" = some (some (.ref f17)))
    (l17 : K.lookup f17 = some ⟨oc17, od17, .func (PySem.W.fnOf "_law_stuffed" "_law_stuffed" (defArgs s__law_stuffed) (defBody s__law_stuffed) (defScope s__law_stuffed) .none kV17 dc17 pm17 an17 cd17 ct17), sl17⟩)
    (c17 : PySem.W.codeIn K cd17 "_law_stuffed" = true)
    (k17 : PySem.W.keepIn K (.ref f17) = true)
    (a18 : PySem.W.nsIn K mainGlobals "_law_mark" = some (some (.ref f18)))
    (l18 : K.lookup f18 = some ⟨oc18, od18, .func (PySem.W.fnOf "_law_mark" "_law_mark" (defArgs s__law_mark) (defBody s__law_mark) (defScope s__law_mark) .none kV18 dc18 pm18 an18 cd18 ct18), sl18⟩)
    (c18 : PySem.W.codeIn K cd18 "_law_mark" = true)
    (k18 : PySem.W.keepIn K (.ref f18) = true)
    (a19 : PySem.W.nsIn K mainGlobals "_law_frame" = some (some (.ref f19)))
    (l19 : K.lookup f19 = some ⟨oc19, od19, .func (PySem.W.fnOf "_law_frame" "_law_frame" (defArgs s__law_frame) (defBody s__law_frame) (defScope s__law_frame) .none kV19 dc19 pm19 an19 cd19 ct19), sl19⟩)
    (c19 : PySem.W.codeIn K cd19 "_law_frame" = true)
    (k19 : PySem.W.keepIn K (.ref f19) = true)
    (a20 : PySem.W.nsIn K mainGlobals "_law_payload" = some (some (.ref f20)))
    (l20 : K.lookup f20 = some ⟨oc20, od20, .func (PySem.W.fnOf "_law_payload" "_law_payload" (defArgs s__law_payload) (defBody s__law_payload) (defScope s__law_payload) .none kV20 dc20 pm20 an20 cd20 ct20), sl20⟩)
    (c20 : PySem.W.codeIn K cd20 "_law_payload" = true)
    (k20 : PySem.W.keepIn K (.ref f20) = true)
    (a21 : PySem.W.nsIn K mainGlobals "_law_joined" = some (some (.ref f21)))
    (l21 : K.lookup f21 = some ⟨oc21, od21, .func (PySem.W.fnOf "_law_joined" "_law_joined" (defArgs s__law_joined) (defBody s__law_joined) (defScope s__law_joined) .none kV21 dc21 pm21 an21 cd21 ct21), sl21⟩)
    (c21 : PySem.W.codeIn K cd21 "_law_joined" = true)
    (k21 : PySem.W.keepIn K (.ref f21) = true)
    (a22 : PySem.W.nsIn K mainGlobals "_law_cuts" = some (some (.ref f22)))
    (l22 : K.lookup f22 = some ⟨oc22, od22, .func (PySem.W.fnOf "_law_cuts" "_law_cuts" (defArgs s__law_cuts) (defBody s__law_cuts) (defScope s__law_cuts) .none kV22 dc22 pm22 an22 cd22 ct22), sl22⟩)
    (c22 : PySem.W.codeIn K cd22 "_law_cuts" = true)
    (k22 : PySem.W.keepIn K (.ref f22) = true)
    (a23 : PySem.W.nsIn K mainGlobals "law" = some (some (.ref f23)))
    (l23 : K.lookup f23 = some ⟨oc23, od23, .func (PySem.W.fnOf "law" "law" (defArgs s_law) (defBody s_law) (defScope s_law) .none kV23 dc23 pm23 an23 cd23 ct23), sl23⟩)
    (c23 : PySem.W.codeIn K cd23 "law" = true)
    (k23 : PySem.W.keepIn K (.ref f23) = true)
    (e1 : PySem.W.nsIn K mainGlobals "LineError" = some (some (.ref cLE)))
    (e2 : PySem.W.specialIn K (.ref cLE) "__getattribute__" = some (some (.builtin "type.__getattribute__")))
    (e3 : PySem.W.typeIn K (.ref cLE) = some (.type "type"))
    (e4 : PySem.W.readsIn K cLE (.type "type") = true)
    (e5 : PySem.W.findCls K (.ref cLE) (.type "type") "__init__" = some (.val (.ref fLE)))
    (e6 : PySem.W.keepIn K (.ref fLE) = true)
    (e7 : K.lookup fLE = some ⟨ocLE, odLE, .func (PySem.W.fnOf "__init__" "LineError.__init__" (defArgs i_LineError) (defBody i_LineError) (defScope i_LineError) (.ref dLE) kVLE dcLE pmLE anLE cdLE ctLE), slLE⟩)
    (e8 : PySem.W.codeIn K cdLE "LineError.__init__" = true)
    (e9 : K.lookup dLE = some ⟨.type "tuple", oD, .seq #[.str "LineError" tD1, .str "refused" tD2] mD, slD⟩)
    (e10 : PySem.W.findCls K (.type "ValueError") (.type "type") "__init__" = some (.val (.builtin "ValueError.__init__")))
    (z_ValueError : PySem.W.nsIn K mainGlobals "ValueError" = some none)
    (gBadBit : PySem.W.nsIn K mainGlobals "BadBit" = some (some (.ref xBadBit)))
    (gaBadBit : PySem.W.findIn K (.ref xBadBit) "__getattribute__" = some (some (.builtin "BaseException.__getattribute__")))
    (ggBadBit : PySem.W.findIn K (.ref xBadBit) "__getattr__" = some none)
    (exBadBit : PySem.W.subIn K (.ref xBadBit) (.type "BaseException") = some true)
    (hdBadBit : PySem.W.hasDictIn K xBadBit = true)
    (noBadBit : PySem.W.findIn K (.ref xBadBit) "at" = some none)
    (gBadFrame : PySem.W.nsIn K mainGlobals "BadFrame" = some (some (.ref xBadFrame)))
    (gaBadFrame : PySem.W.findIn K (.ref xBadFrame) "__getattribute__" = some (some (.builtin "BaseException.__getattribute__")))
    (ggBadFrame : PySem.W.findIn K (.ref xBadFrame) "__getattr__" = some none)
    (exBadFrame : PySem.W.subIn K (.ref xBadFrame) (.type "BaseException") = some true)
    (hdBadFrame : PySem.W.hasDictIn K xBadFrame = true)
    (noBadFrame : PySem.W.findIn K (.ref xBadFrame) "at" = some none)
    (mB_BadFrame_BadFrame : PySem.W.exmOne K (.ref xBadFrame) (.ref xBadFrame) = some true)
    (o1BadBit : K.lookup xBadBit = some (excClassObj nmBadBit qBadBit xBadBit NBadBit bsBadBit bmBadBit true snBadBit subBadBit abBadBit colBadBit ddBadBit kaBadBit kbBadBit kcBadBit kdBadBit keBadBit "ValueError.__new__"))
    (o2BadBit : PySem.HandSPX.refsVE bmBadBit = true)
    (o3BadBit : PySem.W.findIn K (.ref xBadBit) "__setattr__" = some (some (.builtin "object.__setattr__")))
    (o4BadBit : PySem.W.typeIn K (.ref xBadBit) = some (.type "type"))
    (o5BadBit : PySem.W.keepIn K (.ref xBadBit) = true)
    (o6BadBit : PySem.W.findIn K (.ref xBadBit) "__init__" = some (some (.ref fIBadBit)))
    (o7BadBit : PySem.W.typeIn K (.ref fIBadBit) = some (.type "function"))
    (o8BadBit : K.lookup fIBadBit = some ⟨ocBadBit, odBadBit, .func (PySem.W.fnOf "__init__" "BadBit.__init__" (defArgs i_BadBit) (defBody i_BadBit) (defScope i_BadBit) .none kVBadBit dcBadBit pmBadBit anBadBit cdBadBit ctBadBit), slBadBit⟩)
    (o9BadBit : PySem.W.codeIn K cdBadBit "BadBit.__init__" = true)
    (p1BadBit : PySem.W.keepIn K (.ref fIBadBit) = true)
    (p2BadBit : PySem.W.findIn K (.ref xBadBit) "word" = some none)
    (o1BadFrame : K.lookup xBadFrame = some (excClassObj nmBadFrame qBadFrame xBadFrame NBadFrame bsBadFrame bmBadFrame true snBadFrame subBadFrame abBadFrame colBadFrame ddBadFrame kaBadFrame kbBadFrame kcBadFrame kdBadFrame keBadFrame "ValueError.__new__"))
    (o2BadFrame : PySem.HandSPX.refsVE bmBadFrame = true)
    (o3BadFrame : PySem.W.findIn K (.ref xBadFrame) "__setattr__" = some (some (.builtin "object.__setattr__")))
    (o4BadFrame : PySem.W.typeIn K (.ref xBadFrame) = some (.type "type"))
    (o5BadFrame : PySem.W.keepIn K (.ref xBadFrame) = true)
    (o6BadFrame : PySem.W.findIn K (.ref xBadFrame) "__init__" = some (some (.ref fIBadFrame)))
    (o7BadFrame : PySem.W.typeIn K (.ref fIBadFrame) = some (.type "function"))
    (o8BadFrame : K.lookup fIBadFrame = some ⟨ocBadFrame, odBadFrame, .func (PySem.W.fnOf "__init__" "BadFrame.__init__" (defArgs i_BadFrame) (defBody i_BadFrame) (defScope i_BadFrame) .none kVBadFrame dcBadFrame pmBadFrame anBadFrame cdBadFrame ctBadFrame), slBadFrame⟩)
    (o9BadFrame : PySem.W.codeIn K cdBadFrame "BadFrame.__init__" = true)
    (p1BadFrame : PySem.W.keepIn K (.ref fIBadFrame) = true)
    (p2BadFrame : PySem.W.findIn K (.ref xBadFrame) "word" = some none)
    (z_enumerate : PySem.W.nsIn K mainGlobals "enumerate" = some none)
    (z_len : PySem.W.nsIn K mainGlobals "len" = some none)
    (z_list : PySem.W.nsIn K mainGlobals "list" = some none)
    (z_tuple : PySem.W.nsIn K mainGlobals "tuple" = some none)
    (z_all : PySem.W.nsIn K mainGlobals "all" = some none)
    (z_bool : PySem.W.nsIn K mainGlobals "bool" = some none)
    (z_int : PySem.W.nsIn K mainGlobals "int" = some none)
    (z_isinstance : PySem.W.nsIn K mainGlobals "isinstance" = some none)
    (z_range : PySem.W.nsIn K mainGlobals "range" = some none)
    (z_str : PySem.W.nsIn K mainGlobals "str" = some none)
    (q_SEAL : PySem.W.nsIn K mainGlobals "SEAL" = some (some (.int 16 t_SEAL)))
    (q_TURNED : PySem.W.nsIn K mainGlobals "TURNED" = some (some (.ref a_TURNED)))
    (w_TURNED : K.lookup a_TURNED = some ⟨.type "tuple", o_TURNED, .seq #[.int 3 t_TURNED0, .int 10 t_TURNED1, .int 15 t_TURNED2] m_TURNED, sl_TURNED⟩)
    (q_MOST_ONES : PySem.W.nsIn K mainGlobals "MOST_ONES" = some (some (.int 5 t_MOST_ONES)))
    (q_LONGEST : PySem.W.nsIn K mainGlobals "LONGEST" = some (some (.int 256 t_LONGEST)))
    (q_MOST_OPEN : PySem.W.nsIn K mainGlobals "MOST_OPEN" = some (some (.int 400 t_MOST_OPEN)))
    (q_MARK : PySem.W.nsIn K mainGlobals "MARK" = some (some (.ref a_MARK)))
    (w_MARK : K.lookup a_MARK = some ⟨.type "tuple", o_MARK, .seq #[.int 0 t_MARK0, .int 1 t_MARK1, .int 1 t_MARK2, .int 1 t_MARK3, .int 1 t_MARK4, .int 1 t_MARK5, .int 1 t_MARK6, .int 0 t_MARK7] m_MARK, sl_MARK⟩) :
    ∃ fd : FuncData, (∀ (s : Shared) (v : Value), BindsTo s fd ⟨[v], []⟩ [("_law_script", v)]) ∧ ∀ base : Heap, K.In base → base.Ns mainGlobals mg → FnOk l.prog w K mg base CX0 11 fa fd ["_law_script"] (spLaw K) := by
  have e := hfa.symm.trans (PySem.W.mg_of X G a23)
  cases e
  have F0 := fun_mk (st := s_check_bits) l0 c0 k0
  have b0 := F0.binds (ps := ["bits"]) fun _ _ _ _ _ _ us hl => match us, hl with | [_], _ => rfl
  have F1 := fun_mk (st := s_moved_on) l1 c1 k1
  have b1 := F1.binds (ps := ["cells", "bit"]) fun _ _ _ _ _ _ us hl => match us, hl with | [_, _], _ => rfl
  have F2 := fun_mk (st := s_seal_of) l2 c2 k2
  have b2 := F2.binds (ps := ["bits"]) fun _ _ _ _ _ _ us hl => match us, hl with | [_], _ => rfl
  have F3 := fun_mk (st := s_holds) l3 c3 k3
  have b3 := F3.binds (ps := ["bits"]) fun _ _ _ _ _ _ us hl => match us, hl with | [_], _ => rfl
  have F4 := fun_mk (st := s_unstuffed) l4 c4 k4
  have b4 := F4.binds (ps := ["bits"]) fun _ _ _ _ _ _ us hl => match us, hl with | [_], _ => rfl
  have F5 := fun_mk (st := s_payload_between) l5 c5 k5
  have b5 := F5.binds (ps := ["bits"]) fun _ _ _ _ _ _ us hl => match us, hl with | [_], _ => rfl
  have F6 := fun_mk (st := m_Reader___init__) l6 c6 k6
  have b6 := F6.binds (ps := ["self"]) fun _ _ _ _ _ _ us hl => match us, hl with | [_], _ => rfl
  have F7 := fun_mk (st := m_Reader_pass_mark) l7 c7 k7
  have b7 := F7.binds (ps := ["self"]) fun _ _ _ _ _ _ us hl => match us, hl with | [_], _ => rfl
  have F8 := fun_mk (st := m_Reader_take_bit) l8 c8 k8
  have b8 := F8.binds (ps := ["self", "bit"]) fun _ _ _ _ _ _ us hl => match us, hl with | [_, _], _ => rfl
  have F9 := fun_mk (st := m_Reader_take) l9 c9 k9
  have b9 := F9.binds (ps := ["self", "bits"]) fun _ _ _ _ _ _ us hl => match us, hl with | [_, _], _ => rfl
  have F10 := fun_mk (st := m_Reader_hurt) l10 c10 k10
  have b10 := F10.binds (ps := ["self"]) fun _ _ _ _ _ _ us hl => match us, hl with | [_], _ => rfl
  have F11 := fun_mk (st := s__law_bag) l11 c11 k11
  have b11 := F11.binds (ps := ["_law_script"]) fun _ _ _ _ _ _ us hl => match us, hl with | [_], _ => rfl
  have F12 := fun_mk (st := s__law_pick) l12 c12 k12
  have b12 := F12.binds (ps := ["_law_bag_here", "_law_top"]) fun _ _ _ _ _ _ us hl => match us, hl with | [_, _], _ => rfl
  have F13 := fun_mk (st := s__law_same) l13 c13 k13
  have b13 := F13.binds (ps := ["_law_found", "_law_due"]) fun _ _ _ _ _ _ us hl => match us, hl with | [_, _], _ => rfl
  have F14 := fun_mk (st := s__law_written) l14 c14 k14
  have b14 := F14.binds (ps := ["_law_figure", "_law_wide"]) fun _ _ _ _ _ _ us hl => match us, hl with | [_, _], _ => rfl
  have F15 := fun_mk (st := s__law_bits) l15 c15 k15
  have b15 := F15.binds (ps := ["_law_bag_here", "_law_size"]) fun _ _ _ _ _ _ us hl => match us, hl with | [_, _], _ => rfl
  have F16 := fun_mk (st := s__law_seal) l16 c16 k16
  have b16 := F16.binds (ps := ["_law_signs"]) fun _ _ _ _ _ _ us hl => match us, hl with | [_], _ => rfl
  have F17 := fun_mk (st := s__law_stuffed) l17 c17 k17
  have b17 := F17.binds (ps := ["_law_signs"]) fun _ _ _ _ _ _ us hl => match us, hl with | [_], _ => rfl
  have F18 := fun_mk (st := s__law_mark) l18 c18 k18
  have b18 := F18.binds (ps := []) fun _ _ _ _ _ _ us hl => match us, hl with | [], _ => rfl
  have F19 := fun_mk (st := s__law_frame) l19 c19 k19
  have b19 := F19.binds (ps := ["_law_signs"]) fun _ _ _ _ _ _ us hl => match us, hl with | [_], _ => rfl
  have F20 := fun_mk (st := s__law_payload) l20 c20 k20
  have b20 := F20.binds (ps := ["_law_bag_here", "_law_most"]) fun _ _ _ _ _ _ us hl => match us, hl with | [_, _], _ => rfl
  have F21 := fun_mk (st := s__law_joined) l21 c21 k21
  have b21 := F21.binds (ps := ["_law_bag_here", "_law_rows"]) fun _ _ _ _ _ _ us hl => match us, hl with | [_, _], _ => rfl
  have F22 := fun_mk (st := s__law_cuts) l22 c22 k22
  have b22 := F22.binds (ps := ["_law_bag_here", "_law_signs"]) fun _ _ _ _ _ _ us hl => match us, hl with | [_, _], _ => rfl
  have F23 := fun_mk (st := s_law) l23 c23 k23
  have b23 := F23.binds (ps := ["_law_script"]) fun _ _ _ _ _ _ us hl => match us, hl with | [_], _ => rfl
  have h_TURNED : ∀ H, SqT K H a_TURNED [.int 3, .int 10, .int 15] := fun H => .inr ⟨_, _, _, w_TURNED, rfl, rfl, (by show 3 ≤ sizeLine; decide), .cons ⟨_, rfl⟩ (.cons ⟨_, rfl⟩ (.cons ⟨_, rfl⟩ (.nil)))⟩
  have h_MARK : ∀ H, SqT K H a_MARK [.int 0, .int 1, .int 1, .int 1, .int 1, .int 1, .int 1, .int 0] := fun H => .inr ⟨_, _, _, w_MARK, rfl, rfl, (by show 8 ≤ sizeLine; decide), .cons ⟨_, rfl⟩ (.cons ⟨_, rfl⟩ (.cons ⟨_, rfl⟩ (.cons ⟨_, rfl⟩ (.cons ⟨_, rfl⟩ (.cons ⟨_, rfl⟩ (.cons ⟨_, rfl⟩ (.cons ⟨_, rfl⟩ (.nil))))))))⟩
  have clsReader : Cls K cReader := ⟨r2Reader, r3Reader, r4Reader, r5Reader⟩
  have R_Reader : RdC K cReader := ⟨clsReader, r_Reader_last, r_Reader_behind, r_Reader_spoilt⟩
  have FD : FunD K "__init__" "LineError.__init__" (defArgs i_LineError) (defBody i_LineError) (defScope i_LineError) [.str "LineError", .str "refused"] [] fLE (PySem.W.fnOf "__init__" "LineError.__init__" (defArgs i_LineError) (defBody i_LineError) (defScope i_LineError) (.ref dLE) kVLE dcLE pmLE anLE cdLE ctLE) := ⟨⟨_, _, _, _, _, _, _, _, _, _, rfl, e7, e8, .inr ⟨by simp, dLE, _, _, _, rfl, e9, rfl, .cons ⟨_, rfl⟩ (.cons ⟨_, rfl⟩ .nil)⟩, .inl rfl⟩, e6⟩
  have bLE : Binds K (PySem.W.fnOf "__init__" "LineError.__init__" (defArgs i_LineError) (defBody i_LineError) (defScope i_LineError) (.ref dLE) kVLE dcLE pmLE anLE cdLE ctLE) ["self", "word", "text"] [] := by
    obtain ⟨ds, r, hb⟩ := FD.binds1 (ps := ["self", "word", "text"]) 3 2 (by simp) rfl (fun T kV doc pm an cdv ct us its hu hi => match us, its, hu, hi with | [_, _, _], [_, _], _, _ => ⟨_, rfl, rfl⟩)
    cases r
    exact hb
  have TL : ClsFn K mg "LineError" "__init__" cLE fLE := ⟨PySem.W.mg_of X G e1, e2, e3, e4, e5, rfl, e6⟩
  have OBadBit : OexC K xBadBit := ⟨⟨_, _, _, _, _, _, _, _, _, _, _, _, _, _, _, o1BadBit, o2BadBit⟩, o3BadBit, exBadBit, o4BadBit, o5BadBit⟩
  have FIBadBit := fun_mk (st := i_BadBit) o8BadBit o9BadBit p1BadBit
  have bIBadBit := FIBadBit.binds (ps := ["self", "at"]) fun _ _ _ _ _ _ us hl => match us, hl with | [_, _], _ => rfl
  have OBadFrame : OexC K xBadFrame := ⟨⟨_, _, _, _, _, _, _, _, _, _, _, _, _, _, _, o1BadFrame, o2BadFrame⟩, o3BadFrame, exBadFrame, o4BadFrame, o5BadFrame⟩
  have FIBadFrame := fun_mk (st := i_BadFrame) o8BadFrame o9BadFrame p1BadFrame
  have bIBadFrame := FIBadFrame.binds (ps := ["self", "at"]) fun _ _ _ _ _ _ us hl => match us, hl with | [_, _], _ => rfl
  refine ⟨PySem.W.fnOf "law" "law" (defArgs s_law) (defBody s_law) (defScope s_law) .none kV23 dc23 pm23 an23 cd23 ct23, fun s v => .of_eq rfl, fun base _ _ => ?_⟩
  have OKL := ok_i_LineError (P := l.prog) (w := w) (base := base) (mg := mg) (k := 0) FD (PySem.W.mg_none_of X G z_ValueError) e10
  have X_BadBit : XcOk l.prog w K mg base 2 "BadBit" xBadBit (spIni K xBadBit "BadBit" "at") := ⟨fIBadBit, _, _, OBadBit, o6BadBit, o7BadBit, ok_i_BadBit FIBadBit TL OKL bLE OBadBit p2BadBit noBadBit, bIBadBit, PySem.W.mg_of X G gBadBit⟩
  have X_BadFrame : XcOk l.prog w K mg base 2 "BadFrame" xBadFrame (spIni K xBadFrame "BadFrame" "at") := ⟨fIBadFrame, _, _, OBadFrame, o6BadFrame, o7BadFrame, ok_i_BadFrame FIBadFrame TL OKL bLE OBadFrame p2BadFrame noBadFrame, bIBadFrame, PySem.W.mg_of X G gBadFrame⟩
  have C_check_bits : CalX l.prog w K mg base 4 "check_bits" ["bits"] (spCheckX K xBadBit) := ⟨f0, _, ok_check_bits F0 (PySem.W.mg_none_of X G z_enumerate) (X_BadBit.mono (by decide)), PySem.W.mg_of X G a0, k0, b0⟩
  have C_moved_on : Cal l.prog w K mg base 1 "moved_on" ["cells", "bit"] (spMoved K) := ⟨f1, _, ok_moved_on F1 (PySem.W.mg_of X G q_TURNED) h_TURNED, PySem.W.mg_of X G a1, k1, b1⟩
  have C_seal_of : Cal l.prog w K mg base 5 "seal_of" ["bits"] (spSealN K) := ⟨f2, _, ok_seal_of F2 (PySem.W.mg_of X G q_SEAL) (C_check_bits.mono (by decide)) (C_moved_on.mono (by decide)), PySem.W.mg_of X G a2, k2, b2⟩
  have C_holds : Cal l.prog w K mg base 6 "holds" ["bits"] (spHolds K) := ⟨f3, _, ok_holds F3 (PySem.W.mg_none_of X G z_len) (PySem.W.mg_none_of X G z_list) (PySem.W.mg_of X G q_SEAL) (C_check_bits.mono (by decide)) (C_seal_of.mono (by decide)), PySem.W.mg_of X G a3, k3, b3⟩
  have C_unstuffed : CalX l.prog w K mg base 5 "unstuffed" ["bits"] (spUnX K xBadBit xBadFrame) := ⟨f4, _, ok_unstuffed F4 (PySem.W.mg_none_of X G z_enumerate) (PySem.W.mg_none_of X G z_len) (PySem.W.mg_of X G q_MOST_ONES) (X_BadFrame.mono (by decide)) (C_check_bits.mono (by decide)), PySem.W.mg_of X G a4, k4, b4⟩
  have C_payload_between : Cal l.prog w K mg base 7 "payload_between" ["bits"] (spPb K) := ⟨f5, _, ok_payload_between F5 (PySem.W.mg_none_of X G z_len) (PySem.W.mg_of X G q_SEAL) (PySem.W.mg_of X G q_LONGEST) (PySem.W.mg_of X G gBadFrame) mB_BadFrame_BadFrame (C_unstuffed.mono (by decide)) (C_holds.mono (by decide)), PySem.W.mg_of X G a5, k5, b5⟩
  have C_new_Reader : CalN l.prog w K mg base 1 "Reader" cReader ["self"] (spRi cReader) := ⟨f6, _, ⟨r6Reader, a6, i6, r7Reader⟩, ok_Reader___init__ F6 R_Reader, PySem.W.mg_of X G r1Reader, b6⟩
  have C_Reader_pass_mark : CalM CX0 l.prog w K mg base 8 cReader "pass_mark" ["self"] (spPm cReader) := ⟨f7, _, clsReader, ⟨a7, i7, k7⟩, ok_Reader_pass_mark F7 (PySem.W.mg_none_of X G z_len) (PySem.W.mg_of X G q_MARK) h_MARK R_Reader (C_payload_between.mono (by decide)), b7⟩
  have C_Reader_take_bit : CalM CX0 l.prog w K mg base 9 cReader "take_bit" ["self", "bit"] (spTb cReader) := ⟨f8, _, clsReader, ⟨a8, i8, k8⟩, ok_Reader_take_bit F8 (PySem.W.mg_none_of X G z_len) (PySem.W.mg_none_of X G z_tuple) (PySem.W.mg_of X G q_MARK) h_MARK (PySem.W.mg_of X G q_MOST_OPEN) R_Reader (C_Reader_pass_mark.mono (by decide)), b8⟩
  have C_Reader_take : CalM (L2.CX l.prog w) l.prog w K mg base 10 cReader "take" ["self", "bits"] (spTake cReader xBadBit) := ⟨f9, _, clsReader, ⟨a9, i9, k9⟩, ok_Reader_take F9 R_Reader (C_check_bits.mono (by decide)) (C_Reader_take_bit.mono (by decide)), b9⟩
  have C_Reader_hurt : CalM CX0 l.prog w K mg base 1 cReader "hurt" ["self"] (spHurt cReader) := ⟨f10, _, clsReader, ⟨a10, i10, k10⟩, ok_Reader_hurt F10 R_Reader, b10⟩
  have C__law_bag : Cal l.prog w K mg base 1 "_law_bag" ["_law_script"] (spBag K) := ⟨f11, _, ok__law_bag F11 (PySem.W.mg_none_of X G z_len) (PySem.W.mg_none_of X G z_list), PySem.W.mg_of X G a11, k11, b11⟩
  have C__law_pick : Cal l.prog w K mg base 1 "_law_pick" ["_law_bag_here", "_law_top"] (spPick) := ⟨f12, _, ok__law_pick F12 (PySem.W.mg_none_of X G z_len), PySem.W.mg_of X G a12, k12, b12⟩
  have C__law_same : Cal l.prog w K mg base 3 "_law_same" ["_law_found", "_law_due"] (spSame K 3) := ⟨f13, _, ok__law_same F13 (PySem.W.mg_of X G a13) b13 (PySem.W.mg_none_of X G z_len) (PySem.W.mg_none_of X G z_all) (PySem.W.mg_none_of X G z_bool) (PySem.W.mg_none_of X G z_int) (PySem.W.mg_none_of X G z_isinstance) (PySem.W.mg_none_of X G z_list) (PySem.W.mg_none_of X G z_range) (PySem.W.mg_none_of X G z_str) (PySem.W.mg_none_of X G z_tuple) 3, PySem.W.mg_of X G a13, k13, b13⟩
  have C__law_written : Cal l.prog w K mg base 1 "_law_written" ["_law_figure", "_law_wide"] (spWritten) := ⟨f14, _, ok__law_written F14 (PySem.W.mg_none_of X G z_range), PySem.W.mg_of X G a14, k14, b14⟩
  have C__law_bits : Cal l.prog w K mg base 2 "_law_bits" ["_law_bag_here", "_law_size"] (spBits) := ⟨f15, _, ok__law_bits F15 (PySem.W.mg_none_of X G z_range) (C__law_pick.mono (by decide)), PySem.W.mg_of X G a15, k15, b15⟩
  have C__law_seal : Cal l.prog w K mg base 2 "_law_seal" ["_law_signs"] (spSeal K) := ⟨f16, _, ok__law_seal F16 (C__law_written.mono (by decide)), PySem.W.mg_of X G a16, k16, b16⟩
  have C__law_stuffed : Cal l.prog w K mg base 1 "_law_stuffed" ["_law_signs"] (spStuff K) := ⟨f17, _, ok__law_stuffed F17 (PySem.W.mg_none_of X G z_str) (PySem.W.mg_none_of X G z_int), PySem.W.mg_of X G a17, k17, b17⟩
  have C__law_mark : Cal l.prog w K mg base 1 "_law_mark" [] (spMark) := ⟨f18, _, ok__law_mark F18 , PySem.W.mg_of X G a18, k18, b18⟩
  have C__law_frame : Cal l.prog w K mg base 3 "_law_frame" ["_law_signs"] (spLfr K) := ⟨f19, _, ok__law_frame F19 (C__law_mark.mono (by decide)) (C__law_stuffed.mono (by decide)) (C__law_seal.mono (by decide)), PySem.W.mg_of X G a19, k19, b19⟩
  have C__law_payload : Cal l.prog w K mg base 3 "_law_payload" ["_law_bag_here", "_law_most"] (spPay) := ⟨f20, _, ok__law_payload F20 (C__law_bits.mono (by decide)) (C__law_pick.mono (by decide)), PySem.W.mg_of X G a20, k20, b20⟩
  have C__law_joined : Cal l.prog w K mg base 4 "_law_joined" ["_law_bag_here", "_law_rows"] (spJoined K) := ⟨f21, _, ok__law_joined F21 (C__law_pick.mono (by decide)) (C__law_frame.mono (by decide)) (C__law_mark.mono (by decide)), PySem.W.mg_of X G a21, k21, b21⟩
  have C__law_cuts : Cal l.prog w K mg base 2 "_law_cuts" ["_law_bag_here", "_law_signs"] (spCuts) := ⟨f22, _, ok__law_cuts F22 (PySem.W.mg_none_of X G z_len) (PySem.W.mg_none_of X G z_list) (PySem.W.mg_none_of X G z_range) (C__law_pick.mono (by decide)), PySem.W.mg_of X G a22, k22, b22⟩
  exact ok_law F23 (PySem.W.mg_none_of X G z_isinstance) (PySem.W.mg_none_of X G z_list) (PySem.W.mg_none_of X G z_range) R_Reader (C_new_Reader.mono (by decide)) (C__law_bag.mono (by decide)) (C__law_cuts.mono (by decide)) (C__law_joined.mono (by decide)) (C__law_payload.mono (by decide)) (C__law_pick.mono (by decide)) (C__law_same.mono (by decide)) (C_Reader_hurt.mono (by decide)) (C_Reader_take.mono (by decide))
end WB
open PySem PySem.W PyProof.Rows
set_option maxRecDepth 100000 in
set_option maxHeartbeats 0 in
theorem PySem.Challenge.cw_warbleline_k09_whole_streams_of_frames_holds : PySem.Challenge.rw_warbleline_k09_whole_streams_of_frames.Holds := by
  w_on; o_law; k_head; (case hw => w_witness2)
  k_fill
  refine L2.walk_of (l := PySem.Challenge.rw_warbleline_k09_whole_streams_of_frames) (n := 63) (k := 11) (x := "_law_script") (CX := fun _ => L2.CX0) (sp := fun w => WB.spLaw _) rfl (by decide) rfl ⟨rfl, by decide, by decide⟩ (fun w h Y => PySem.W.kIn_of Y) ?F (fun _ _ a ns hl _ hS => ⟨a, ns, rfl, hS, fun _ => rfl⟩) (fun _ _ _ _ _ h => h)
  case F =>
    intro w mg fa h KX G hmg
    refine' WB.all_mk KX G hmg ?r1Reader ?r2Reader ?r3Reader ?r4Reader ?r5Reader ?r6Reader ?r7Reader ?r_Reader_last ?r_Reader_behind ?r_Reader_spoilt ?a0 ?l0 ?c0 ?k0 ?a1 ?l1 ?c1 ?k1 ?a2 ?l2 ?c2 ?k2 ?a3 ?l3 ?c3 ?k3 ?a4 ?l4 ?c4 ?k4 ?a5 ?l5 ?c5 ?k5 ?a6 ?i6 ?l6 ?c6 ?k6 ?a7 ?i7 ?l7 ?c7 ?k7 ?a8 ?i8 ?l8 ?c8 ?k8 ?a9 ?i9 ?l9 ?c9 ?k9 ?a10 ?i10 ?l10 ?c10 ?k10 ?a11 ?l11 ?c11 ?k11 ?a12 ?l12 ?c12 ?k12 ?a13 ?l13 ?c13 ?k13 ?a14 ?l14 ?c14 ?k14 ?a15 ?l15 ?c15 ?k15 ?a16 ?l16 ?c16 ?k16 ?a17 ?l17 ?c17 ?k17 ?a18 ?l18 ?c18 ?k18 ?a19 ?l19 ?c19 ?k19 ?a20 ?l20 ?c20 ?k20 ?a21 ?l21 ?c21 ?k21 ?a22 ?l22 ?c22 ?k22 ?a23 ?l23 ?c23 ?k23 ?e1 ?e2 ?e3 ?e4 ?e5 ?e6 ?e7 ?e8 ?e9 ?e10 ?z_ValueError ?gBadBit ?gaBadBit ?ggBadBit ?exBadBit ?hdBadBit ?noBadBit ?gBadFrame ?gaBadFrame ?ggBadFrame ?exBadFrame ?hdBadFrame ?noBadFrame ?mB_BadFrame_BadFrame ?o1BadBit ?o2BadBit ?o3BadBit ?o4BadBit ?o5BadBit ?o6BadBit ?o7BadBit ?o8BadBit ?o9BadBit ?p1BadBit ?p2BadBit ?o1BadFrame ?o2BadFrame ?o3BadFrame ?o4BadFrame ?o5BadFrame ?o6BadFrame ?o7BadFrame ?o8BadFrame ?o9BadFrame ?p1BadFrame ?p2BadFrame ?z_enumerate ?z_len ?z_list ?z_tuple ?z_all ?z_bool ?z_int ?z_isinstance ?z_range ?z_str ?q_SEAL ?q_TURNED ?w_TURNED ?q_MOST_ONES ?q_LONGEST ?q_MOST_OPEN ?q_MARK ?w_MARK
    (case r1Reader => k_is)
    (case r2Reader => k_is)
    (case r3Reader => k_is)
    (case r4Reader => k_is)
    (case r5Reader => k_is)
    (case r6Reader => k_is)
    (case r7Reader => k_is)
    (case r_Reader_last => k_is)
    (case r_Reader_behind => k_is)
    (case r_Reader_spoilt => k_is)
    (case a0 => k_is)
    (case l0 => k_is)
    (case c0 => k_is)
    (case k0 => k_is)
    (case a1 => k_is)
    (case l1 => k_is)
    (case c1 => k_is)
    (case k1 => k_is)
    (case a2 => k_is)
    (case l2 => k_is)
    (case c2 => k_is)
    (case k2 => k_is)
    (case a3 => k_is)
    (case l3 => k_is)
    (case c3 => k_is)
    (case k3 => k_is)
    (case a4 => k_is)
    (case l4 => k_is)
    (case c4 => k_is)
    (case k4 => k_is)
    (case a5 => k_is)
    (case l5 => k_is)
    (case c5 => k_is)
    (case k5 => k_is)
    (case a6 => k_is)
    (case i6 => k_is)
    (case l6 => k_is)
    (case c6 => k_is)
    (case k6 => k_is)
    (case a7 => k_is)
    (case i7 => k_is)
    (case l7 => k_is)
    (case c7 => k_is)
    (case k7 => k_is)
    (case a8 => k_is)
    (case i8 => k_is)
    (case l8 => k_is)
    (case c8 => k_is)
    (case k8 => k_is)
    (case a9 => k_is)
    (case i9 => k_is)
    (case l9 => k_is)
    (case c9 => k_is)
    (case k9 => k_is)
    (case a10 => k_is)
    (case i10 => k_is)
    (case l10 => k_is)
    (case c10 => k_is)
    (case k10 => k_is)
    (case a11 => k_is)
    (case l11 => k_is)
    (case c11 => k_is)
    (case k11 => k_is)
    (case a12 => k_is)
    (case l12 => k_is)
    (case c12 => k_is)
    (case k12 => k_is)
    (case a13 => k_is)
    (case l13 => k_is)
    (case c13 => k_is)
    (case k13 => k_is)
    (case a14 => k_is)
    (case l14 => k_is)
    (case c14 => k_is)
    (case k14 => k_is)
    (case a15 => k_is)
    (case l15 => k_is)
    (case c15 => k_is)
    (case k15 => k_is)
    (case a16 => k_is)
    (case l16 => k_is)
    (case c16 => k_is)
    (case k16 => k_is)
    (case a17 => k_is)
    (case l17 => k_is)
    (case c17 => k_is)
    (case k17 => k_is)
    (case a18 => k_is)
    (case l18 => k_is)
    (case c18 => k_is)
    (case k18 => k_is)
    (case a19 => k_is)
    (case l19 => k_is)
    (case c19 => k_is)
    (case k19 => k_is)
    (case a20 => k_is)
    (case l20 => k_is)
    (case c20 => k_is)
    (case k20 => k_is)
    (case a21 => k_is)
    (case l21 => k_is)
    (case c21 => k_is)
    (case k21 => k_is)
    (case a22 => k_is)
    (case l22 => k_is)
    (case c22 => k_is)
    (case k22 => k_is)
    (case a23 => k_is)
    (case l23 => k_is)
    (case c23 => k_is)
    (case k23 => k_is)
    (case e1 => k_is)
    (case e2 => k_is)
    (case e3 => k_is)
    (case e4 => k_is)
    (case e5 => k_is)
    (case e6 => k_is)
    (case e7 => k_is)
    (case e8 => k_is)
    (case e9 => k_is)
    (case e10 => k_is)
    (case z_ValueError => k_is)
    (case gBadBit => k_is)
    (case gaBadBit => k_is)
    (case ggBadBit => k_is)
    (case exBadBit => k_is)
    (case hdBadBit => k_is)
    (case noBadBit => k_is)
    (case gBadFrame => k_is)
    (case gaBadFrame => k_is)
    (case ggBadFrame => k_is)
    (case exBadFrame => k_is)
    (case hdBadFrame => k_is)
    (case noBadFrame => k_is)
    (case mB_BadFrame_BadFrame => kernel_rfl)
    (case o1BadBit => k_is)
    (case o2BadBit => decide +kernel)
    (case o3BadBit => k_is)
    (case o4BadBit => k_is)
    (case o5BadBit => k_is)
    (case o6BadBit => k_is)
    (case o7BadBit => k_is)
    (case o8BadBit => k_is)
    (case o9BadBit => k_is)
    (case p1BadBit => k_is)
    (case p2BadBit => k_is)
    (case o1BadFrame => k_is)
    (case o2BadFrame => decide +kernel)
    (case o3BadFrame => k_is)
    (case o4BadFrame => k_is)
    (case o5BadFrame => k_is)
    (case o6BadFrame => k_is)
    (case o7BadFrame => k_is)
    (case o8BadFrame => k_is)
    (case o9BadFrame => k_is)
    (case p1BadFrame => k_is)
    (case p2BadFrame => k_is)
    (case z_enumerate => k_is)
    (case z_len => k_is)
    (case z_list => k_is)
    (case z_tuple => k_is)
    (case z_all => k_is)
    (case z_bool => k_is)
    (case z_int => k_is)
    (case z_isinstance => k_is)
    (case z_range => k_is)
    (case z_str => k_is)
    (case q_SEAL => k_is)
    (case q_TURNED => k_is)
    (case w_TURNED => k_is)
    (case q_MOST_ONES => k_is)
    (case q_LONGEST => k_is)
    (case q_MOST_OPEN => k_is)
    (case q_MARK => k_is)
    (case w_MARK => k_is)
