import PyProof.Rows.All
import Wide.All
import OpenK.AllK
import Wide.FinOn
import HandS.ForMost
import HandS.ForExc
import HandS.ExcIs
import HandS.IsInst
import HandS.Style
import HandS.Gcd
import HandS.Wide
import HandS.RaiseMore
import HandS.FStr
import HandS.SortInts
import HandS.Conv
import KE.Datum
import HandS.SortRule
import HandS.SortOrd
import HandS.DictTup
import HandS.ListItems
import KE.KItemsList
import PySem.Challenge.RW_dicepairs_k03_sums_that_are_enough
set_option Elab.async false
set_option linter.all false
set_option maxRecDepth 100000
set_option maxHeartbeats 4000000
/-! A caught error that is kept behind its clause: it is tracked from there on; isinstance asks it there. -/
namespace My
open PySem PySem.Spec PyProof.Rows L2

/-- an error object of the class cls, its own dict d, that lies at a -/
def ExV (cls : Value) (d : Option Addr) (a : Addr) : HO :=
  .ext fun h => ∃ (oe : Obj) (vs : Array Value), h.get? a = some oe ∧ Zc cls d oe ∧ oe.data = .fields vs

section
variable {X : Cx} {pins : List (Addr × Obj)} {σ : L2.St} {H : Hp} {s : Shared} {a : Addr} {oe : Obj} {vs : Array Value} {cls : Value} {d : Option Addr}

theorem track (I : Inv X pins σ H s) (he : s.heap.get? a = some oe) (hz : Zc cls d oe) (hd : oe.data = .fields vs) (na : H a = none)
    (n0 : X.s_0.heap.get? a = none) (nL : a ≠ X.env.locals) (np : ∀ p ∈ X.pn ++ pins, p.1 ≠ a) : Inv X pins σ (upd H a (ExV cls d a)) s := by
  have u1 : ∀ b o, X.s_0.heap.get? b = some o → b ≠ a := by
    intro b o e z
    rw [z, n0] at e
    cases e
  have u2 : ∀ b (o : HO), H b = some o → b ≠ a := fun b o e => ne_of_none e na
  have u3 : ∀ x c, X.env.cells.lookup x = some c → c ≠ a := by
    intro x c e z
    obtain ⟨v, o, ho, hv⟩ := I.cell x c e
    rw [z, he] at ho
    cases ho
    rw [hd] at hv
    cases hv
  refine { ok := I.ok, os := I.os, bare := I.bare, loc := I.loc, cell := I.cell, len := I.len, base := ?_, free := ?_, freeC := ?_, pin := ?_, hok := ?_ }
  · have B := I.base
    refine { keep := B.keep, slot := B.slot, there := B.there, free := ?_, tups := ?_, frzs := ?_, tbls := ?_ }
    · intro b o e n x
      rw [upd_ne (u1 b o e)]
      exact B.free b o e n x
    · intro b xs e
      have q := B.tups b xs e
      rw [upd_ne (u2 b _ q)]
      exact q
    · intro b o u e
      have q := B.frzs b o u e
      rw [upd_ne (u2 b _ q)]
      exact q
    · intro b ps e
      obtain ⟨more, q⟩ := B.tbls b ps e
      refine ⟨more, ?_⟩
      rw [upd_ne (u2 b _ q)]
      exact q
  · rw [upd_ne (Ne.symm nL)]
    exact I.free
  · intro x c e
    rw [upd_ne (u3 x c e)]
    exact I.freeC x c e
  · intro p hp
    obtain ⟨p1, p2, p3⟩ := I.pin p hp
    refine ⟨p1, ?_, p3⟩
    rw [upd_ne (np p hp)]
    exact p2
  · intro b o e
    by_cases hb : b = a
    · subst hb
      rw [upd_same] at e
      cases e
      exact ⟨⟨oe, vs, he, hz, hd⟩, ⟨oe, he⟩, fun h1 h2 ⟨o1, v1, w1, w2⟩ k => ⟨o1, v1, k o1 w1, w2⟩⟩
    · rw [upd_ne hb] at e
      refine (I.hok b o e).stay (fun c v _ q => q) (fun c q => ?_) (fun c xs q => ?_)
      · rw [upd_ne (u2 c _ q)]
        exact q
      · rw [upd_ne (u2 c _ q)]
        exact q
end

/-- the wish of a clause 'except x as n': behind the suite the error is tracked -/
def wKeep (K : PySem.W.Frag) (c : Value) (i : Nat) (ts : Addr → Value → Option Addr → TS) (Wout : WX) (D : Ends) : WX := fun cls d σ H =>
  ∃ b, PySem.W.exmOne K cls c = some b ∧
    (b = true → ∀ a, H a = none → ts a cls d { nx := fun σ' H' => D.nx (σ'.set i none) (upd H' a (ExV cls d a)), rt := fun _ _ => False } (σ.set i (some (.ref a))) H) ∧
    (b = false → Wout cls d σ H)

section
variable {X : Cx} {x n : Str} {c : Value} {i : Nat} {body suite : List Stmt} {b₀ : Stmt} {np pos pos' : Pos} {tb : WX → TS} {ts : Addr → Value → Option Addr → TS} {Wout : WX}
theorem ps_try_keep (hex : X.ex = []) (hs : X.stack = X.env :: X.outer) (hf : X.env.frame = some X.env.locals) (hN : X.N.Nodup) (hi : X.N[i]? = some n) (hln : X.env.kindOf n = some .local)
    (hc : Names X x c) (tk : Takes X Wout)
    (hb : ∀ (W : WX) (pn : List (Addr × Obj)) (xe : Value → Shared → Prop), Takes (X.tr pn xe) W → PassesOwn (model X.prog X.w) X.A X.env xe → PSs (X.tr pn xe) body (tb W))
    (hsu : ∀ (a : Addr) (oe : Obj) (cls : Value) (d : Option Addr) (pn : List (Addr × Obj)), Zc cls d oe → (∃ vs, oe.data = .fields vs) → PSs (X.suite a ((a, oe) :: pn)) (b₀ :: suite) (ts a cls d)) :
    PS X (.Try body [.ExceptHandler (some (.Name x np)) (some n) (b₀ :: suite) pos'] [] [] pos) (fun D σ H => tb (wKeep X.K c i ts Wout D) D σ H) := by
  constructor
  intro pins s σ H D I h
  have ok := I.ok
  have frA : X.A.frames = some (X.env :: X.outer) := ok.frames.trans (congrArg some hs)
  apply wpAny_Try_except
  let catch_ : Value → Shared → Prop := fun e s₁ => wpAny (model X.prog X.w) X.A (noteFrame e X.env)
    (fun _ s₂ => wpAny (model X.prog X.w) X.A (setFlight e none)
      (fun _ s₃ => wpAny (model X.prog X.w) X.A (handleBy e X.env [.ExceptHandler (some (.Name x np)) (some n) (b₀ :: suite) pos']) (SP X pins D) X.xe s₃) X.xe s₂) X.xe s₁
  have takes : Takes (X.tr (X.pn ++ pins) catch_) (wKeep X.K c i ts Wout D) := by
    intro u s' xx
    obtain ⟨a, B, sI, pins', σ', H', cls, d, ru, J', nb, up, sky, na, os, ag, b, test, yes, no⟩ := xx
    subst ru
    have J : Inv X pins σ' H' sI := J'.ofTry ok
    rw [show (X.tr (X.pn ++ pins) catch_).stack = X.env :: X.outer from hs] at sky
    show wpAny (model X.prog X.w) X.A (noteFrame (.ref a) X.env) _ _ _
    apply Sky.land Zc.steady frA hf sky
    intro h3 fl3 up3
    have J3 : Inv X pins σ' H' { s' with heap := h3 } := J.landed nb fl3.1 (up.trans up3) os ag
    obtain ⟨oe3, vs3, he3, hz3, hd3⟩ := fl3.there
    have nfr : a ∉ frs (X.env :: X.outer) := by
      intro hm
      obtain ⟨_, o', e', hnf⟩ := fl3.2.2.1.mem hm
      rw [he3] at e'
      cases e'
      exact hnf _ hd3
    have nL : a ≠ X.env.locals := by
      intro z
      exact nfr (List.mem_filterMap.mpr ⟨X.env, List.mem_cons_self, hf.trans (congrArg some z.symm)⟩)
    have nF : a ∉ X.fs := by
      intro hm
      obtain ⟨e, h1, h2⟩ := List.mem_filterMap.mp hm
      exact nfr (List.mem_filterMap.mpr ⟨e, List.mem_cons_of_mem _ h1, h2⟩)
    -- the error is new: the state ahead of it has no object there
    have nI : sI.heap.get? a = none := by
      cases q : sI.heap.get? a with
      | none => rfl
      | some o =>
        have z := nb a o q (by show a ∉ frs X.stack; rw [hs]; exact nfr)
        rw [fl3.2.1] at z
        cases z
    have n0 : X.s_0.heap.get? a = none := by
      cases q : X.s_0.heap.get? a with
      | none => rfl
      | some o =>
        obtain ⟨o', z⟩ := J.base.there a o q (by rw [hex]; exact fun z => nomatch z)
        rw [nI] at z
        cases z
    have npin : ∀ p ∈ X.pn ++ pins, p.1 ≠ a := by
      intro p hp z
      have q := (J.pin p hp).1
      rw [z, nI] at q
      cases q
    have S3 := J3.suite he3 hd3 na nL nF
    refine wpAny_handleBy_cons ?_ (by intro q; cases q)
    apply codeAny_handlers_test
    have LT : PySem.W.Looks (model X.prog X.w) h3 (typeOf (.ref a)) cls := by
      intro A Q E s k q
      exact wpAny_typeOf_ref (k _ _ he3) (by rw [hz3.1]; exact q)
    have LM := PySem.W.exm_one (M := model X.prog X.w) J3.kIn LT test
    have named : ∀ {Q E : Value → Shared → Prop}, Q c { s' with heap := h3 } →
        wpAny (model X.prog X.w) (X.A.mark (some (.ref a))) (eval (.Name x np) X.env) Q E { s' with heap := h3 } := by
      intro Q E q
      obtain ⟨hg, hdb, hm | ⟨hm, hv, hnn⟩⟩ := hc
      · exact ld_glob (X := X.suite a ((a, oe3) :: (X.pn ++ pins))) S3 hg hm q hdb
      · exact ld_blt (X := X.suite a ((a, oe3) :: (X.pn ++ pins))) S3 hg hm hv q hnn hdb
    refine named (LM.here ?_)
    cases b with
    | true =>
      apply codeAny_handlers_suite_as
      apply HandSPX.lands_againZ fl3
      intro h4 fl4 up4
      have J4 : Inv X pins σ' H' { s' with heap := h4 } := J.landed nb fl4.1 ((up.trans up3).trans up4) os ag
      obtain ⟨oe4, vs4, he4, hz4, hd4⟩ := fl4.there
      refine store_ok (X := X.suite a ((a, oe4) :: (X.pn ++ pins))) (v := .ref a) (J4.suite he4 hd4 na nL nF) hN hi (.inl hln) rfl (fun s5 S5 => ?_) (.inr hln)
      refine wpAny_mono ((hsu a oe4 cls d (X.pn ++ pins) hz4 ⟨_, hd4⟩).run [] s5 _ H' _ S5 (yes rfl a na)) ?_ (fun _ _ z => False.elim z)
      intro f s6 hsp
      cases f with
      | next =>
        obtain ⟨σ6, H6, S6, q6⟩ := hsp
        obtain ⟨p1, p2, _⟩ := S6.pin (a, oe4) (List.mem_append.mpr (.inl List.mem_cons_self))
        have T6 : Inv X pins σ6 (upd H6 a (ExV cls d a)) s6 := track (S6.unsuite ok) p1 hz4 hd4 p2 n0 nL npin
        exact gone_ok T6 hN hi hln (fun s7 J7 => ⟨_, _, J7, q6⟩)
      | brk =>
        obtain ⟨_, _, _, q6⟩ := hsp
        exact False.elim q6
      | cont =>
        obtain ⟨_, _, _, q6⟩ := hsp
        exact False.elim q6
      | ret u =>
        obtain ⟨_, _, _, _, _, q6⟩ := hsp
        exact False.elim q6
    | false =>
      show wpAny _ X.A (handleBy (.ref a) X.env []) _ _ _
      apply wpAny_handleBy_nil
      obtain ⟨k1, k2, k3, oe, vs, T, oT, ts', he, hz, hd, h1, hr⟩ := id fl3
      unfold PySem.passOn
      apply wpAny_bind
      apply wpAny_field he hd h1
      rw [if_neg (show ¬ ((Value.ref T == Value.none) = true) from by simp)]
      have last : wpAny (model X.prog X.w) X.A (setFlight (.ref a) X.env.frame)
          (fun _ s4 => wpAny (model X.prog X.w) X.A (throw (.ref a) : Sem Flow) (SP X pins D) X.xe s4) X.xe { s' with heap := h3 } := by
        rw [hf]
        apply HandSPX.setFlight_upZ fl3
        intro h4 hh4 up4
        apply wpAny_throw
        exact tk _ _ ⟨a, B, sI, pins, σ', H', cls, d, rfl, J, nb, (up.trans up3).trans up4, .inr (.inr (by rw [hs]; exact hh4)), na, os, ag, no rfl⟩
      first
        | exact wpAny_bind (wpAny_pure (wpAny_bind last))
        | exact wpAny_bind last
  refine wpAny_mono ((hb _ (X.pn ++ pins) catch_ takes PassesOwn.looking).run [] s σ H D (I.toTry _) h) ?_ (fun e s1 he => he)
  intro f s1 hsp
  cases f with
  | next =>
    obtain ⟨σ', H', J', q⟩ := hsp
    exact wpAny_execs_nil ⟨σ', H', J'.ofTry ok, q⟩
  | brk =>
    obtain ⟨σ', H', J', q⟩ := hsp
    exact ⟨σ', H', J'.ofTry ok, q⟩
  | cont =>
    obtain ⟨σ', H', J', q⟩ := hsp
    exact ⟨σ', H', J'.ofTry ok, q⟩
  | ret u =>
    obtain ⟨v, σ', H', J', r, q⟩ := hsp
    exact ⟨v, σ', H', J'.ofTry ok, r, q⟩

/-- isinstance(e, c) of an error that is tracked at a -/
def rIsX (K : PySem.W.Frag) : List V → Hp → VK → Prop := fun xs H Q => ∃ (a D : Addr) (c : V) (cv : Value) (b : Bool), xs = [.ref a, c] ∧ H a = some (ExV (.ref D) none a) ∧ ExcC K D ∧
  (∀ u, RelV c u → u = cv) ∧ PySem.W.kitOne K (.ref D) cv = some b ∧ Q (.bl b) H
theorem call_isX {X : Cx} : CallR X (.builtin "isinstance") (rIsX X.K) := by
  intro pins s σ H xs us Q I r h
  obtain ⟨a, D, c, cv, b, rfl, hH, C, hcv, e, q⟩ := h
  obtain ⟨u1, u2, rfl, r1, r2⟩ := vals2 r
  cases (show u1 = Value.ref a from r1)
  have ec := hcv _ r2
  subst ec
  obtain ⟨⟨oe, vs, hget, hz, hv⟩, _, _⟩ := (show ObjOk X.prog X.w H s.heap a (ExV (.ref D) none a) from I.hok a _ hH)
  have J : PySem.W.InstAt s.heap a oe D none := by
    obtain ⟨oc, od, oda, osl⟩ := oe
    obtain ⟨h1, h2⟩ := hz
    dsimp only at h1 h2 hv
    subst h1 h2 hv
    exact ⟨hget, rfl, rfl, trivial⟩
  exact PySem.W.kia_one (PySem.W.handS_kitx_exc C.hg C.hk C.hs C.hd C.ha C.hn C.ht C.hm) I.kIn J e (fun z => nomatch z) fun tk => ⟨.bl b, H, I.kept (t' := tk) fun _ _ z => z, rfl, q⟩
/-- isinstance of a value or of a tracked error -/
theorem call_isV {X : Cx} : CallR X (.builtin "isinstance") (fun xs H Q => rIsi X.K xs H Q ∨ rIsX X.K xs H Q) := by
  intro pins s σ H xs us Q I r h
  rcases h with h | h
  · exact call_isi pins s σ H xs us Q I r h
  · exact call_isX pins s σ H xs us Q I r h
/-- what an own error class says -/
structure ExFacts (K : PySem.W.Frag) (C : Addr) : Prop where
  x : PySem.W.excIn K C [.type "ValueError", .type "Exception", .type "BaseException", .type "object"] "ValueError.__new__" = true
  k : PySem.W.keepIn K (.ref C) = true
  b : PySem.W.subIn K (.ref C) (.type "BaseException") = some true
  t : PySem.W.typeIn K (.ref C) = some (.type "type")
  c : ExcC K C
end
end My

/-! Small words used by all laws: kinds of values, ways, heaps, comprehensions over lists. -/
namespace My
open PySem PySem.Spec PyProof.Rows L2

/-! ### ways -/
theorem iteD {p : Prop} [Decidable p] {A B : Prop} (h1 : p → A) (h2 : ¬ p → B) : if decide p = true then A else B := by
  by_cases h : p
  · rw [decide_eq_true h, if_pos rfl]
    exact h1 h
  · rw [decide_eq_false h, if_neg Bool.false_ne_true]
    exact h2 h
theorem iteND {p : Prop} [Decidable p] {A B : Prop} (h1 : ¬ p → A) (h2 : p → B) : if (!decide p) = true then A else B := by
  by_cases h : p
  · rw [decide_eq_true h, if_neg (by decide)]
    exact h2 h
  · rw [decide_eq_false h, if_pos (by decide)]
    exact h1 h
theorem iteB {b : Bool} {A B : Prop} (h1 : b = true → A) (h2 : b = false → B) : if b = true then A else B := by
  cases b with
  | true => exact h1 rfl
  | false => exact h2 rfl

/-- a written divisor -/
theorem md {j : Int} (h : decide (0 < j) = true) : 0 < j := of_decide_eq_true h
theorem dv {i j : Int} (h : (decide (0 < j) && decide (j < 1073741824)) = true) : CDiv i j := by
  rw [Bool.and_eq_true] at h
  exact ⟨of_decide_eq_true h.1, of_decide_eq_true h.2⟩

/-! ### heaps -/
theorem same_new {H : Hp} {p : Addr} {o : HO} (h : H p = none) : Same H (upd H p o) := fun b x e => by
  rw [upd_ne (ne_of_none e h)]
  exact e
theorem same_old {H H' : Hp} {p : Addr} {o : HO} (e : Same H H') (h : H p = none) : Same H (upd H' p o) := fun b x q => by
  rw [upd_ne (ne_of_none q h)]
  exact e b x q
theorem sz_ok {n : Nat} (h : n ≤ 1000000) : n ≤ sizeLine := Nat.le_trans h (by decide)
theorem sz_lt {n : Nat} (h : n < 1000000) : n < sizeLine := Nat.lt_of_lt_of_le h (by decide)
theorem sq_of {K : PySem.W.Frag} {H : Hp} {a : Addr} {xs : List V} (h : H a = some (.lst xs)) : SqL K H a xs := .inl (.inl h)
theorem st_of {K : PySem.W.Frag} {H : Hp} {a : Addr} {xs : List V} (h : H a = some (.tup xs)) : SqT K H a xs := .inl (.inl h)

/-! ### kinds of values -/
inductive Kd (H : Hp) : V → String → Prop
  | int (i : Int) : Kd H (.int i) "int"
  | bl (b : Bool) : Kd H (.bl b) "bool"
  | non : Kd H .non "NoneType"
  | str (x : Str) : Kd H (.str x) "str"
  | lst {a : Addr} {xs : List V} (h : H a = some (.lst xs)) : Kd H (.ref a) "list"
  | tup {a : Addr} {xs : List V} (h : H a = some (.tup xs)) : Kd H (.ref a) "tuple"
  | dct {a : Addr} {kvs : List (Key × V)} (h : H a = some (.dK kvs)) : Kd H (.ref a) "dict"
section
variable {H H' : Hp} {v : V} {n : String} {K : PySem.W.Frag}
theorem Kd.ty (k : Kd H v n) : TyX K H v (.type n) := by
  cases k with
  | int i => exact .base (.int i)
  | bl b => exact .base (.bl b)
  | non => exact .base .non
  | str x => exact .base (.str x)
  | lst h => exact .base (.lst h)
  | tup h => exact .base (.tup h)
  | dct h => exact .base (.dK h)
theorem Kd.mono (e : Same H H') (k : Kd H v n) : Kd H' v n := by
  cases k with
  | int i => exact .int i
  | bl b => exact .bl b
  | non => exact .non
  | str x => exact .str x
  | lst h => exact .lst (e _ _ h)
  | tup h => exact .tup (e _ _ h)
  | dct h => exact .dct (e _ _ h)
def isIntB : V → Bool
  | .int _ => true
  | .bl _ => true
  | _ => false
def isBlB : V → Bool
  | .bl _ => true
  | _ => false
def isNum : V → Bool
  | .int _ => true
  | _ => false
theorem Kd.kInt (k : Kd H v n) : kitB n "int" = some (isIntB v) := by
  cases k <;> (simp only [isIntB]; decide +kernel)
theorem Kd.kBool (k : Kd H v n) : kitB n "bool" = some (isBlB v) := by
  cases k <;> (simp only [isBlB]; decide +kernel)
def lstOf (H : Hp) : V → Option (List V)
  | .ref a => (match H a with
    | some (.lst xs) => some xs
    | _ => none)
  | _ => none
theorem lstOf_ref {a : Addr} {xs : List V} (h : H a = some (.lst xs)) : lstOf H (.ref a) = some xs := by
  show (match H a with
    | some (.lst xs) => some xs
    | _ => none) = some xs
  rw [h]
theorem lstOf_some {xs : List V} (h : lstOf H v = some xs) : ∃ a, v = .ref a ∧ H a = some (.lst xs) := by
  unfold lstOf at h
  split at h
  · rename_i a
    split at h
    · rename_i ys e
      cases h
      exact ⟨a, rfl, e⟩
    · cases h
  · cases h
theorem Kd.kListN (k : Kd H v n) (h : lstOf H v = none) : kitB n "list" = some false := by
  cases k with
  | lst e => rw [lstOf_ref e] at h; cases h
  | _ => decide +kernel
theorem Kd.kListS (k : Kd H v n) {xs : List V} (h : lstOf H v = some xs) : kitB n "list" = some true := by
  obtain ⟨a, rfl, e⟩ := lstOf_some h
  cases k with
  | lst e' => decide +kernel
  | tup e' => rw [e] at e'; cases e'
  | dct e' => rw [e] at e'; cases e'
end

/-! ### a comprehension over a list: what it makes, in one word -/
section
variable {K : PySem.W.Frag}
/-- the items that are kept, by f; the source stands still -/
theorem lc_map {a : Addr} {xs : List V} {g : TG} {tt : TT} {te : TE} {vs : List Nat} {σ : L2.St} {H1 : Hp} {D : Addr} {Qd : Hp → Prop} (keep : V → Bool) (f : V → V)
    (nD : H1 D = none) (hS : SqL K H1 a xs) (len : xs.length < 1000000)
    (hs : ∀ x H' (R : V → Hp → Prop) (N : Hp → Prop), x ∈ xs → Same H1 H' → (keep x = true → ∀ H4, Same H' H4 → R (f x) H4) → (keep x = false → ∀ H4, Same H' H4 → N H4) →
      g x (wipe σ vs) H' fun σ2 H2 => wipe σ2 vs = wipe σ vs ∧ tt σ2 H2 fun b H3 => if b = true then te σ2 H3 R else N H3)
    (hd : ∀ H', Same H1 H' → H' D = some (.lst ((xs.filter keep).map f)) → Qd H') :
    ∃ W : Nat → Nat → Hp → Prop, (∃ m, W 0 m (upd H1 D (.lst []))) ∧ ∀ i m H, W i m H →
      ((Itl K a).stop i H ∧ Qd H) ∨ ((Itl K a).go i H ∧ ∃ Nx : Hp → Prop, (∀ H', Nx H' → ∃ m', m' < m ∧ W (i + 1) m' H') ∧ ∀ x H', (Itl K a).yld i H x H' → g x (wipe σ vs) H' fun σ2 H2 => wipe σ2 vs = wipe σ vs ∧ tt σ2 H2 fun b H3 =>
        if b = true then te σ2 H3 fun y H4 => ∃ acc, H4 D = some (.lst acc) ∧ acc.length < sizeLine ∧ Nx (upd H4 D (.lst (acc ++ [y]))) else Nx H3) := by
  refine lc_list (K := K) (a := a) (xs := xs) (fun i H => Same H1 H ∧ H D = some (.lst (((xs.take i).filter keep).map f))) ⟨same_new nD, upd_same⟩ (fun i H _ p => p.1.seq hS) ?_ ?_
  · intro i x H hi p
    obtain ⟨p1, p2⟩ := p
    have tk : xs.take (i + 1) = xs.take i ++ [x] := by
      rw [List.take_add_one, hi]
      rfl
    refine hs x H _ _ (List.mem_of_getElem? hi) p1 (fun kx H4 e4 => ?_) (fun kx H4 e4 => ?_)
    · refine ⟨_, e4 _ _ p2, ?_, fun b o e => ?_, ?_⟩
      · refine sz_lt (Nat.lt_of_le_of_lt ?_ len)
        rw [List.length_map]
        refine Nat.le_trans (List.length_filter_le _ _) ?_
        rw [List.length_take]
        exact Nat.min_le_right _ _
      · rw [upd_ne (ne_of_none e nD)]
        exact e4 _ _ (p1 _ _ e)
      · rw [upd_same, tk, List.filter_append, List.map_append]
        simp [List.filter_cons, kx]
    · refine ⟨p1.trans e4, ?_⟩
      rw [e4 _ _ p2, tk, List.filter_append, List.map_append]
      simp [List.filter_cons, kx]
  · intro H p
    obtain ⟨p1, p2⟩ := p
    rw [List.take_length] at p2
    exact hd H p1 p2
/-- all items -/
theorem lc_all {a : Addr} {xs : List V} {g : TG} {tt : TT} {te : TE} {vs : List Nat} {σ : L2.St} {H1 : Hp} {D : Addr} {Qd : Hp → Prop} (f : V → V)
    (nD : H1 D = none) (hS : SqL K H1 a xs) (len : xs.length < 1000000)
    (hs : ∀ x H' (R : V → Hp → Prop), x ∈ xs → Same H1 H' → (∀ H4, Same H' H4 → R (f x) H4) →
      ∀ N : Hp → Prop, g x (wipe σ vs) H' fun σ2 H2 => wipe σ2 vs = wipe σ vs ∧ tt σ2 H2 fun b H3 => if b = true then te σ2 H3 R else N H3)
    (hd : ∀ H', Same H1 H' → H' D = some (.lst (xs.map f)) → Qd H') :
    ∃ W : Nat → Nat → Hp → Prop, (∃ m, W 0 m (upd H1 D (.lst []))) ∧ ∀ i m H, W i m H →
      ((Itl K a).stop i H ∧ Qd H) ∨ ((Itl K a).go i H ∧ ∃ Nx : Hp → Prop, (∀ H', Nx H' → ∃ m', m' < m ∧ W (i + 1) m' H') ∧ ∀ x H', (Itl K a).yld i H x H' → g x (wipe σ vs) H' fun σ2 H2 => wipe σ2 vs = wipe σ vs ∧ tt σ2 H2 fun b H3 =>
        if b = true then te σ2 H3 fun y H4 => ∃ acc, H4 D = some (.lst acc) ∧ acc.length < sizeLine ∧ Nx (upd H4 D (.lst (acc ++ [y]))) else Nx H3) := by
  refine lc_map (fun _ => true) f nD hS len (fun x H' R N hx e r _ => hs x H' R hx e (r rfl) N) fun H' e q => hd H' e ?_
  rw [q, List.filter_eq_self.mpr (fun _ _ => rfl)]
/-- the same over a tuple -/
theorem lt_all {a : Addr} {xs : List V} {g : TG} {tt : TT} {te : TE} {vs : List Nat} {σ : L2.St} {H1 : Hp} {D : Addr} {Qd : Hp → Prop} (f : V → V)
    (nD : H1 D = none) (hS : H1 a = some (.tup xs)) (len : xs.length < 1000000)
    (hs : ∀ x H' (R : V → Hp → Prop), x ∈ xs → Same H1 H' → (∀ H4, Same H' H4 → R (f x) H4) →
      ∀ N : Hp → Prop, g x (wipe σ vs) H' fun σ2 H2 => wipe σ2 vs = wipe σ vs ∧ tt σ2 H2 fun b H3 => if b = true then te σ2 H3 R else N H3)
    (hd : ∀ H', Same H1 H' → H' D = some (.lst (xs.map f)) → Qd H') :
    ∃ W : Nat → Nat → Hp → Prop, (∃ m, W 0 m (upd H1 D (.lst []))) ∧ ∀ i m H, W i m H →
      ((Itt K a).stop i H ∧ Qd H) ∨ ((Itt K a).go i H ∧ ∃ Nx : Hp → Prop, (∀ H', Nx H' → ∃ m', m' < m ∧ W (i + 1) m' H') ∧ ∀ x H', (Itt K a).yld i H x H' → g x (wipe σ vs) H' fun σ2 H2 => wipe σ2 vs = wipe σ vs ∧ tt σ2 H2 fun b H3 =>
        if b = true then te σ2 H3 fun y H4 => ∃ acc, H4 D = some (.lst acc) ∧ acc.length < sizeLine ∧ Nx (upd H4 D (.lst (acc ++ [y]))) else Nx H3) := by
  refine lc_tup (K := K) (a := a) (xs := xs) (fun i H => Same H1 H ∧ H D = some (.lst ((xs.take i).map f))) ⟨same_new nD, upd_same⟩ (fun i H _ p => st_of (p.1 _ _ hS)) ?_ ?_
  · intro i x H hi p
    obtain ⟨p1, p2⟩ := p
    have tk : xs.take (i + 1) = xs.take i ++ [x] := by
      rw [List.take_add_one, hi]
      rfl
    refine hs x H _ (List.mem_of_getElem? hi) p1 (fun H4 e4 => ?_) _
    refine ⟨_, e4 _ _ p2, ?_, fun b o e => ?_, ?_⟩
    · refine sz_lt (Nat.lt_of_le_of_lt ?_ len)
      rw [List.length_map, List.length_take]
      exact Nat.min_le_right _ _
    · rw [upd_ne (ne_of_none e nD)]
      exact e4 _ _ (p1 _ _ e)
    · rw [upd_same, tk, List.map_append]
      rfl
  · intro H p
    obtain ⟨p1, p2⟩ := p
    rw [List.take_length] at p2
    exact hd H p1 p2
end

/-! ### rules with the written part told (for a comprehension's block) -/
def rListOf (K : PySem.W.Frag) : List V → Hp → VK → Prop := fun xs H Q => ∃ p ys, xs = [.ref p] ∧ (SqL K H p ys ∨ SqT K H p ys) ∧ ∀ l, H l = none → Q (.ref l) (upd H l (.lst ys))
theorem call_listOf {X : Cx} : CallR X (.type "list") (rListOf X.K) := call_list_of
def rLenSeq (K : PySem.W.Frag) : List V → Hp → VK → Prop := fun xs H Q => ∃ p ys, xs = [.ref p] ∧ (SqL K H p ys ∨ SqT K H p ys) ∧ Q (.int ys.length) H
theorem call_lenSeq {X : Cx} : CallR X (.builtin "len") (rLenSeq X.K) := call_len_seq
/-! ### data: what stands at v is x -/
section
open PySem.W (Datum Tup)
variable {α β : Type} [DecidableEq α] [Datum α] [DecidableEq β] [Datum β] {K : PySem.W.Frag} {H H' : Hp}
def Is (K : PySem.W.Frag) (H : Hp) (v : V) (x : α) : Prop := Dp K H v (Datum.toD x)
theorem is_int (i : Int) : Is K H (.int i) i := .int i
theorem is_bl (b : Bool) : Is K H (.bl b) b := .bl b
theorem is_str (s : Str) : Is K H (.str s) s := .str s
/-- item by item -/
inductive IsAll (K : PySem.W.Frag) (H : Hp) : List V → List α → Prop
  | nil : IsAll K H [] []
  | cons {v : V} {vs : List V} {x : α} {xs : List α} (h : Is K H v x) (t : IsAll K H vs xs) : IsAll K H (v :: vs) (x :: xs)
theorem IsAll.dp {vs : List V} {xs : List α} (h : IsAll K H vs xs) : DpAll K H vs (xs.map Datum.toD) := by
  induction h with
  | nil => exact .nil
  | cons h t ih => exact .cons h ih
theorem IsAll.map {γ : Type} (f : γ → V) (g : γ → α) : ∀ (l : List γ), (∀ y ∈ l, Is K H (f y) (g y)) → IsAll K H (l.map f) (l.map g)
  | [], _ => .nil
  | y :: r, h => .cons (h y List.mem_cons_self) (IsAll.map f g r fun z hz => h z (List.mem_cons_of_mem _ hz))
theorem IsAll.ints (ns : List Int) : IsAll K H (ns.map V.int) ns := by
  have q := IsAll.map (K := K) (H := H) V.int id ns (fun y _ => is_int y)
  rw [List.map_id] at q
  exact q
theorem IsAll.strs : ∀ ns : List Str, IsAll K H (ns.map V.str) ns
  | [] => .nil
  | s :: r => .cons (is_str s) (IsAll.strs r)
theorem is_list {a : Addr} {vs : List V} {xs : List α} (h : SqL K H a vs) (t : IsAll K H vs xs) : Is K H (.ref a) xs := by
  show Dp K H (.ref a) (.list (xs.map Datum.toD))
  exact .lst h t.dp
theorem is_tup {a : Addr} {vs : List V} {xs : List α} (h : SqT K H a vs) (t : IsAll K H vs xs) : Is K H (.ref a) (Tup.mk xs) := by
  show Dp K H (.ref a) (.tuple (xs.map Datum.toD))
  exact .tup h t.dp
theorem is_pair {a : Addr} {v u : V} {x : α} {y : β} (h : SqT K H a [v, u]) (hx : Is K H v x) (hy : Is K H u y) : Is K H (.ref a) (x, y) := by
  show Dp K H (.ref a) (.tuple [Datum.toD x, Datum.toD y])
  exact .tup h (.cons hx (.cons hy .nil))
theorem is_ints {a : Addr} {ns : List Int} (h : SqL K H a (ns.map V.int)) : Is K H (.ref a) ns := is_list h (.ints ns)
/-- == and != of data -/
def rEqP (K : PySem.W.Frag) : R2 := fun x y H Q => ∃ d e, Dp K H x d ∧ Dp K H y e ∧ d.plain = true ∧ e.plain = true ∧ d.depth ≤ 64 ∧ Q (.bl (PyData.eqv d e)) H
def rNeP (K : PySem.W.Frag) : R2 := fun x y H Q => ∃ d e, Dp K H x d ∧ Dp K H y e ∧ d.plain = true ∧ e.plain = true ∧ d.depth ≤ 64 ∧ Q (.bl (!PyData.eqv d e)) H
theorem op_eqP {X : Cx} (hu : X.A.units + 64 < cLine) : OpR X (compareOp .Eq) (rEqP X.K) := by
  intro pins s σ H x y v u Q I rx ry h
  obtain ⟨d, e, hd, he, pd, pe, hdep, q⟩ := h
  obtain ⟨as, r1⟩ := Dp.reads I d x v hd rx
  obtain ⟨bs, r2⟩ := Dp.reads I e y u he ry
  refine PySem.SeqAt.eq_plain r1 r2 pd pe ?_ ⟨.bl _, H, I, rfl, q⟩
  have := Nat.min_le_left d.depth e.depth
  omega
theorem op_neP {X : Cx} (hu : X.A.units + 64 < cLine) : OpR X (compareOp .NotEq) (rNeP X.K) := by
  intro pins s σ H x y v u Q I rx ry h
  obtain ⟨d, e, hd, he, pd, pe, hdep, q⟩ := h
  obtain ⟨as, r1⟩ := Dp.reads I d x v hd rx
  obtain ⟨bs, r2⟩ := Dp.reads I e y u he ry
  refine PySem.SeqAt.ne_plain r1 r2 pd pe ?_ ⟨.bl _, H, I, rfl, q⟩
  have := Nat.min_le_left d.depth e.depth
  omega
/-- what is wanted of them -/
theorem eq_is {v u : V} {x y : α} {Q : VK} (hx : Is K H v x) (hy : Is K H u y) (q : Q (.bl (decide (x = y))) H) (h : Datum.depth α ≤ 64 := by decide) : rEqP K v u H Q :=
  ⟨_, _, hx, hy, Datum.plain x, Datum.plain y, Nat.le_trans (Datum.depth_le x) h, by rw [Datum.eqv]; exact q⟩
theorem ne_is {v u : V} {x y : α} {Q : VK} (hx : Is K H v x) (hy : Is K H u y) (q : Q (.bl (!decide (x = y))) H) (h : Datum.depth α ≤ 64 := by decide) : rNeP K v u H Q :=
  ⟨_, _, hx, hy, Datum.plain x, Datum.plain y, Nat.le_trans (Datum.depth_le x) h, by rw [Datum.eqv]; exact q⟩
end
end My

/-! sorted(d.items()) of a dict of whole numbers, of any size: its pairs, sorted, each a new tuple. -/
namespace My
open PySem PySem.Spec PyProof.Rows L2

/-- an entry of whole numbers -/
def entI (p : Int × Int) : Key × V := (Sum.inl p.1, .int p.2)
/-- a pair read off an object -/
def pairAt (h : Heap) : Value → Int × Int
  | .ref a => (match h.get? a with
    | some ob => (match ob.data with
      | .seq its _ => (match its.toList with
        | [.int x _, .int y _] => (x, y)
        | _ => (0, 0))
      | _ => (0, 0))
    | none => (0, 0))
  | _ => (0, 0)
def refAt : Value → Addr
  | .ref a => a
  | _ => 0
theorem pairAt_of {h : Heap} {a : Addr} {x y : Int} {t u : Tok} (e : h.get? a = some { cls := .type "tuple", data := .seq #[.int x t, .int y u] }) : pairAt h (.ref a) = (x, y) := by
  show (match h.get? a with
    | some ob => (match ob.data with
      | .seq its _ => (match its.toList with
        | [.int x _, .int y _] => (x, y)
        | _ => (0, 0))
      | _ => (0, 0))
    | none => (0, 0)) = (x, y)
  rw [e]
def rSortedItems : V → Hp → VK → Prop := fun x H Q => ∃ (d : Addr) (kvs : List (Int × Int)), x = .ref d ∧ H d = some (.dK (kvs.map entI)) ∧
  ∀ (H' : Hp) (p : Addr) (ps : List (Addr × Int × Int)), Same H H' → H p = none → (∀ z ∈ ps, H z.1 = none) → p ∉ ps.map (·.1) → (ps.map (·.1)).Nodup →
    (ps.map (·.2)).Perm kvs → (ps.map (·.2)).Pairwise (fun a b => SrtO.lexB b a = false) → H' p = some (.lst (ps.map fun z => V.ref z.1)) →
    (∀ z ∈ ps, H' z.1 = some (.tup [.int z.2.1, .int z.2.2])) → Q (.ref p) H'
def tSortedItems (te : TE) : TE := fun σ H Q => te σ H fun x H1 => rSortedItems x H1 Q
section
variable {X : Cx} {e : Expr} {te : TE} {p apos cpos pos : Pos}
theorem ints_entries : ∀ {kvs : List (Int × Int)} {vs : List (Key × Value)}, KV (kvs.map entI) vs → ∀ {j : Nat} {q : Key × Value}, vs[j]? = some q → ∃ (z : Int × Int) (t : Tok), kvs[j]? = some z ∧ q = (Sum.inl z.1, .int z.2 t)
  | [], _, .nil, j, q, h => by simp at h
  | z :: r, _, .cons hz t, 0, q, h => by
    have e := Option.some.inj h
    subst e
    obtain ⟨e1, tk, e2⟩ := hz
    exact ⟨z, tk, rfl, Prod.ext e1.symm e2⟩
  | z :: r, _, .cons hz t, j + 1, q, h => ints_entries t (j := j) h
theorem pe_sortedItems (hc : X.calm = true) (he : PE X e te) (hg : Gl X "sorted") (hm : X.mg "sorted" = none) (hv : bootBuiltins "sorted" = some (.builtin "sorted"))
    (hbase : attributeBase e "items" X.env (eval e X.env) = eval e X.env := by rfl) (hline : (apos.endLine == cpos.line) = true := by rfl)
    (hs : starEach [.Call (.Attribute e "items" apos) [] [] cpos] X.env = (false, eval (.Call (.Attribute e "items" apos) [] [] cpos) X.env) :: starEach [] X.env := by rfl) :
    PE X (.Call (.Name "sorted" p) [.Call (.Attribute e "items" apos) [] [] cpos] [] pos) (tSortedItems te) := by
  refine ⟨fun pins s σ H Q I hq => ?_⟩
  apply wpAny_Call_Name_kw
  apply ld_blt I hg hm hv
  refine PyProof.Rows.callWith_builtin1 ?_ hs rfl
  rw [hs]
  show wpAny _ _ (spliced ((false, eval (.Call (.Attribute e "items" apos) [] [] cpos) X.env) :: backTo pos (starEach [] X.env))) _ _ s
  apply Calls.spliced_cons
  refine wpAny_Call_method (T := "dict") (id := "dict.items") hbase rfl hline F.plainAttrs_dict F.slot_dict_items F.type_dict_items (thn (he.run pins s σ H _ I hq) fun u s1 hu => ?_)
  obtain ⟨x, H1, I1, rx, d, kvs, ex, hd, q⟩ := hu
  subst ex
  obtain rfl : u = Value.ref d := rx
  obtain ⟨hz, hs0, vs, kv, hdo⟩ := (show ObjOk X.prog X.w H1 s1.heap d (.dK (kvs.map entI)) from I1.hok d _ hd)
  obtain ⟨ep, hat⟩ := hdo.dictAt
  have lk : (kvs.map entI).length = vs.length := Paired.length kv
  have lk2 : kvs.length = vs.length := by rw [← lk, List.length_map]
  have I2 : Inv X pins σ H1 { s1 with heap := s1.heap.push { cls := .type "dict_items", data := .fields #[.ref d] } } := I1.kept (t' := s1.toks) fun b ob z => Heap.get?_push_of_some _ z
  refine ⟨hdo.typeIs, hdo.mapOf.noDict, ?_⟩
  show wpAny _ _ (callWith cpos (.builtin "dict.items") [.ref d] [] []) _ X.xe s1
  refine method_meetsIn F.slot_dict_items F.entry_dict_items rfl (PySem.evalArgs_none ⟨rfl, hdo.typeIs, F.args_dict_items_1 _, _, meets_dict_items (mixKind X.prog X.w) d hs0, ⟨vs, hdo⟩, ?_⟩)
  apply Calls.spliced_nil
  -- sorted of the view
  generalize hs2 : ({ s1 with heap := s1.heap.push { cls := .type "dict_items", data := .fields #[.ref d] } } : Shared) = s2 at I2
  have hh : X.A.handled = none := I1.ok.hd hc
  have view : s2.heap.IsItemsView s1.heap.objs.size d := by rw [← hs2]; exact ⟨_, Heap.get?_push_size _ rfl, rfl, rfl⟩
  have hat2 : s2.heap.DictAt (mixKind X.prog X.w) d vs ep := by rw [← hs2]; exact hat.push _
  show wpAny _ _ (call (.builtin "sorted") [.ref s1.heap.objs.size]) _ _ _
  refine Calls.call_function_entry kind_sorted plain_sorted entry_sorted (args_sorted1 _) ?_
  unfold Builtin.«sorted»
  refine wpAny_bind (m := checkCount "sorted" 1 1 _) (wpAny_pure ?_)
  refine wpAny_bind (PySem.W.kdx_collect (knd := mixKind X.prog X.w) (kvs := vs) (ep := ep) (A := X.A.in1) hh view hat2 (by omega) fun h' tk as hk hl hG => ?_)
  have llen : (as.map Value.ref).length = vs.length := by rw [List.length_map, hl]
  refine wpAny_bind (wpAny_newList ?_ (by omega))
  have nd : as.Nodup := List.Pairwise.imp (fun {a b} (h : a < b) => Nat.ne_of_lt h) hG.rise
  have hob : (h'.push { cls := .type "list", data := .seq (as.map Value.ref).toArray }).get? h'.objs.size = some (seqObj "list" (as.map Value.ref).toArray 0) := Heap.get?_push_size _ rfl
  have ka : ∀ b o, h'.get? b = some o → (h'.push { cls := .type "list", data := .seq (as.map Value.ref).toArray }).get? b = some o := fun b o z => Heap.get?_push_of_some _ z
  have ne0 : ∀ b o, h'.get? b = some o → b ≠ h'.objs.size := fun b o z => Nat.ne_of_lt (Heap.lt_size z)
  show wpAny _ _ _ _ _ { s2 with heap := h'.push { cls := .type "list", data := .seq (as.map Value.ref).toArray }, toks := tk }
  generalize h'.push { cls := .type "list", data := .seq (as.map Value.ref).toArray } = h2 at hob ka ⊢
  -- the pairs that were made
  have prs : ∀ (j : Nat) (b : Addr), as[j]? = some b → ∃ (z : Int × Int) (t u : Tok), kvs[j]? = some z ∧ h2.get? b = some { cls := .type "tuple", data := .seq #[.int z.1 t, .int z.2 u] } := by
    intro j b hj
    obtain ⟨key, k, y, e1, e2, e3⟩ := hG.pairs j b hj
    obtain ⟨z, t, e4, e5⟩ := ints_entries kv e1
    cases e5
    obtain ⟨tk1, ek⟩ := Value.isInt_shape (k := z.1) (v := key) e2
    subst ek
    exact ⟨z, tk1, t, e4, ka _ _ e3⟩
  have isP : ∀ v ∈ as.map Value.ref, Srt.IsPair h2 v (pairAt h2 v).1 (pairAt h2 v).2 := by
    intro v hv'
    obtain ⟨b, hb, rfl⟩ := List.mem_map.mp hv'
    obtain ⟨j, hj⟩ := List.mem_iff_getElem?.mp hb
    obtain ⟨z, t, u, _, hz2⟩ := prs j b hj
    rw [pairAt_of hz2]
    exact ⟨b, _, t, u, 0, rfl, hz2, rfl, rfl⟩
  have hvals : (as.map Value.ref).map (pairAt h2) = kvs := by
    apply List.ext_getElem?
    intro j
    rw [List.getElem?_map, List.getElem?_map]
    cases hj : as[j]? with
    | none =>
      have h1 := List.getElem?_eq_none_iff.mp hj
      rw [List.getElem?_eq_none (by omega)]
      rfl
    | some b =>
      obtain ⟨z, t, u, e4, hz2⟩ := prs j b hj
      rw [e4]
      show some (pairAt h2 (.ref b)) = some z
      rw [pairAt_of hz2]
  refine wpAny_bind (wpAny_holding (wpAny_call_entry slot_list_sort ⟨_, hob, rfl⟩ entry_list_sort
    (SrtO.list_sort_ord (SrtO.swo_lex (pairAt h2)) hob (by omega) (fun h2' => SrtO.pairs_sortableO (by omega) isP fun o z => ?_) fun out hso hst => ⟨_, rfl, ?_⟩) (args_list_sort _)))
  · have z2 : some o = some (seqObj "list" (as.map Value.ref).toArray 0) := z.symm.trans hob
    cases z2
    intro c
    exact absurd (Value.type.inj c) (by decide)
  refine wpAny_pure ⟨_, rfl, ?_⟩
  show EP X pins σ Q (.ref h'.objs.size) { s2 with heap := sortedHeap h2 h'.objs.size (as.map Value.ref) out.toArray, toks := tk }
  have kF : ∀ b o, b ≠ h'.objs.size → h2.get? b = some o → (sortedHeap h2 h'.objs.size (as.map Value.ref) out.toArray).get? b = some o := fun b o hb z => (PyProof.Rows.sortedHeap_old hb (Heap.lt_size z)).trans z
  have kS : ∀ b o, s2.heap.get? b = some o → (sortedHeap h2 h'.objs.size (as.map Value.ref) out.toArray).get? b = some o := fun b o z => kF b o (ne0 _ _ (hk b o z)) (ka _ _ (hk b o z))
  obtain ⟨eF, heF⟩ := PyProof.Rows.sortedHeap_at (vs := as.map Value.ref) (out := out.toArray) hob
  have refs : ∀ v ∈ out, ∃ b, v = .ref b ∧ b ∈ as := by
    intro v hv'
    obtain ⟨b, hb, rfl⟩ := List.mem_map.mp (hst.perm.mem_iff.mp hv')
    exact ⟨b, rfl, hb⟩
  have big : s2.heap.objs.size ≤ h'.objs.size := by
    rcases Nat.lt_or_ge h'.objs.size s2.heap.objs.size with hlt | hge
    · obtain ⟨o, z⟩ : ∃ o, s2.heap.get? s1.heap.objs.size = some o := let ⟨o, z, _⟩ := view; ⟨o, z⟩
      have z2 : s1.heap.objs.size < h'.objs.size := Heap.lt_size (hk _ _ z)
      have z3 : s2.heap.objs.size = s1.heap.objs.size + 1 := by rw [← hs2]; exact Heap.size_push _ _
      omega
    · exact hge
  have hn0 : H1 h'.objs.size = none := I2.hok.fresh big
  have I3 : Inv X pins σ H1 { s2 with heap := sortedHeap h2 h'.objs.size (as.map Value.ref) out.toArray, toks := tk } := I2.kept (t' := tk) kS
  have backs : out.map (fun v => Value.ref (refAt v)) = out := by
    have : ∀ l : List Value, (∀ v ∈ l, ∃ b, v = .ref b ∧ b ∈ as) → l.map (fun v => Value.ref (refAt v)) = l := by
      intro l
      induction l with
      | nil => intro _; rfl
      | cons v r ih =>
        intro hl
        obtain ⟨b, rfl, _⟩ := hl v List.mem_cons_self
        rw [List.map_cons, ih fun z hz => hl z (List.mem_cons_of_mem _ hz)]
        rfl
    exact this out refs
  have rv : Vals (out.map fun v => V.ref (refAt v)) out.toArray.toList := by
    have : Vals (out.map fun v => V.ref (refAt v)) (out.map fun v => Value.ref (refAt v)) := by
      clear backs heF kS kF hso hst refs I3
      induction out with
      | nil => exact .nil
      | cons v r ih => exact .cons rfl ih
    rw [backs] at this
    exact this
  have lenO : out.length = vs.length := by rw [hst.perm.length_eq, llen]
  have I4 : Inv X pins σ (upd H1 h'.objs.size (.lst (out.map fun v => V.ref (refAt v)))) { s2 with heap := sortedHeap h2 h'.objs.size (as.map Value.ref) out.toArray, toks := tk } :=
    I3.take (h' := sortedHeap h2 h'.objs.size (as.map Value.ref) out.toArray) (t' := tk) (fun b ob _ z => z) (I2.fpOk big hn0) ⟨by rw [List.length_map]; omega, out.toArray.toList, eF, rv, heF⟩
  have abv : ∀ b ∈ as, s2.heap.objs.size ≤ b := fun b hb => Nat.le_of_lt (hG.above b hb)
  have asne : ∀ b ∈ as, b ≠ h'.objs.size := fun b hb => Nat.ne_of_lt (hG.there hb)
  obtain ⟨H5, I5, g5, t5⟩ := L2.DX.takeT (P := fun b ws => ∃ z : Int × Int, pairAt h2 (.ref b) = z ∧ ws = [.int z.1, .int z.2]) I2 as _ I4 nd fun b hb => by
    obtain ⟨j, hj⟩ := List.mem_iff_getElem?.mp hb
    obtain ⟨z, t, u, _, hz2⟩ := prs j b hj
    refine ⟨abv b hb, ?_, [.int z.1, .int z.2], ⟨z, pairAt_of hz2, rfl⟩, fun H2 => ⟨by show 2 ≤ sizeLine; decide, [.int z.1 t, .int z.2 u], .cons ⟨_, rfl⟩ (.cons ⟨_, rfl⟩ .nil), ⟨_, kF _ _ (asne b hb) hz2, rfl, 0, rfl⟩⟩⟩
    rw [upd_ne (asne b hb)]
    exact I2.hok.fresh (abv b hb)
  have pm : ∀ f : Addr × Int × Int → Prop, (∀ v ∈ out, f (refAt v, pairAt h2 v)) → ∀ z ∈ out.map (fun v => (refAt v, pairAt h2 v)), f z := by
    intro f hf z hz2
    obtain ⟨v, hv', rfl⟩ := List.mem_map.mp hz2
    exact hf v hv'
  have m1 : (out.map (fun v => (refAt v, pairAt h2 v))).map (·.1) = out.map refAt := by rw [List.map_map]; rfl
  have m2 : (out.map (fun v => (refAt v, pairAt h2 v))).map (·.2) = out.map (pairAt h2) := by rw [List.map_map]; rfl
  have pA : (out.map refAt).Perm as := by
    have z := hst.perm.map refAt
    rw [List.map_map] at z
    have z2 : (as.map (refAt ∘ Value.ref)) = as := by
      have : (refAt ∘ Value.ref) = id := rfl
      rw [this, List.map_id]
    rw [z2] at z
    exact z
  refine ⟨.ref h'.objs.size, H5, I5, rfl, q H5 _ (out.map fun v => (refAt v, pairAt h2 v)) (fun b o z => g5 b o ?_) hn0 (pm _ fun v hv' => ?_) ?_ ?_ ?_ ?_ ?_ (pm _ fun v hv' => ?_)⟩
  · rw [upd_ne (ne_of_none z hn0)]
    exact z
  · obtain ⟨b, rfl, hb⟩ := refs v hv'
    exact I2.hok.fresh (abv b hb)
  · rw [m1]
    intro z
    exact asne _ (pA.mem_iff.mp z) rfl
  · rw [m1]
    exact pA.nodup_iff.mpr nd
  · rw [m2, ← hvals]
    exact hst.perm.map _
  · rw [m2]
    exact List.pairwise_map.mpr hso
  · rw [List.map_map]
    exact g5 _ _ upd_same
  · obtain ⟨b, rfl, hb⟩ := refs v hv'
    obtain ⟨ws, ⟨z, e1, e2⟩, e3⟩ := t5 b hb
    subst e2
    show H5 b = _
    rw [e3]
    show _ = some (HO.tup [.int (pairAt h2 (.ref b)).1, .int (pairAt h2 (.ref b)).2])
    rw [e1]
end
end My

/-! Counts of sums, in plain Lean: a dict of whole numbers as a list of pairs, throws as functions. -/
namespace My
open PySem PySem.Spec PyProof.Rows L2

/-! ### a dict of whole numbers -/
def lookI : List (Int × Int) → Int → Int
  | [], _ => 0
  | p :: r, k => if p.1 = k then p.2 else lookI r k
def putI (m : List (Int × Int)) (k v : Int) : List (Int × Int) :=
  if (m.any fun p => decide (p.1 = k)) = true then m.map (fun p => if p.1 = k then (p.1, v) else p) else m ++ [(k, v)]
def addI (m : List (Int × Int)) (k v : Int) : List (Int × Int) := putI m k (lookI m k + v)
theorem valV_entI (k : Int) : ∀ m : List (Int × Int), (valV (m.map entI) (Sum.inl k)).getD (.int 0) = .int (lookI m k)
  | [] => rfl
  | p :: r => by
    rw [List.map_cons, lookI]
    by_cases e : p.1 = k
    · rw [if_pos e, valV_pos (p := entI p) (show Sum.inl p.1 = Sum.inl k by rw [e])]
      rfl
    · rw [if_neg e, valV_neg (p := entI p) (show ¬ Sum.inl p.1 = Sum.inl k from fun z => e (Sum.inl.inj z))]
      exact valV_entI k r
theorem valV_entI_some {k : Int} : ∀ {m : List (Int × Int)}, k ∈ m.map (·.1) → valV (m.map entI) (Sum.inl k) = some (.int (lookI m k))
  | [], h => by simp at h
  | p :: r, h => by
    rw [List.map_cons, lookI]
    by_cases e : p.1 = k
    · rw [if_pos e, valV_pos (p := entI p) (show Sum.inl p.1 = Sum.inl k by rw [e])]
      rfl
    · rw [if_neg e, valV_neg (p := entI p) (show ¬ Sum.inl p.1 = Sum.inl k from fun z => e (Sum.inl.inj z))]
      rcases List.mem_cons.mp h with h | h
      · exact absurd h.symm e
      · exact valV_entI_some h
theorem any_entI (k : Int) (m : List (Int × Int)) : ((m.map entI).any fun kv => decide (kv.1 = (Sum.inl k : Key))) = m.any fun p => decide (p.1 = k) := by
  rw [List.any_map]
  congr 1
  funext p
  show decide ((Sum.inl p.1 : Key) = Sum.inl k) = decide (p.1 = k)
  exact decide_eq_decide.mpr ⟨fun z => Sum.inl.inj z, fun z => by rw [z]⟩
theorem putK_entI (m : List (Int × Int)) (k v : Int) : putK (m.map entI) (Sum.inl k) (.int v) = (putI m k v).map entI := by
  unfold putK putI
  rw [any_entI]
  split
  · rw [List.map_map, List.map_map]
    apply List.map_congr_left
    intro p _
    show (if (Sum.inl p.1 : Key) = Sum.inl k then ((Sum.inl p.1 : Key), V.int v) else entI p) = entI (if p.1 = k then (p.1, v) else p)
    by_cases e : p.1 = k
    · rw [if_pos e, if_pos (by rw [e])]
      rfl
    · rw [if_neg e, if_neg fun z => e (Sum.inl.inj z)]
  · rw [List.map_append]
    rfl
theorem look_map (k j v : Int) : ∀ m : List (Int × Int), j ≠ k → lookI (m.map fun p => if p.1 = k then (p.1, v) else p) j = lookI m j
  | [], _ => rfl
  | p :: r, h => by
    rw [List.map_cons, lookI, lookI, look_map k j v r h]
    by_cases e : p.1 = k
    · rw [if_pos e]
      have h1 : ¬ p.1 = j := fun z => h (z.symm.trans e)
      rw [if_neg h1, if_neg h1]
    · rw [if_neg e]
theorem look_map_same (k v : Int) : ∀ m : List (Int × Int), (m.any fun p => decide (p.1 = k)) = true → lookI (m.map fun p => if p.1 = k then (p.1, v) else p) k = v
  | [], h => by simp at h
  | p :: r, h => by
    rw [List.map_cons, lookI]
    by_cases e : p.1 = k
    · rw [if_pos e, if_pos e]
    · rw [if_neg e, if_neg e]
      rw [List.any_cons, decide_eq_false e, Bool.false_or] at h
      exact look_map_same k v r h
theorem look_snoc (k j v : Int) : ∀ m : List (Int × Int), (m.any fun p => decide (p.1 = k)) = false → lookI (m ++ [(k, v)]) j = if j = k then v else lookI m j
  | [], _ => by
    show (if k = j then v else 0) = _
    by_cases e : j = k
    · rw [if_pos e, if_pos e.symm]
    · rw [if_neg e, if_neg fun z => e z.symm]
      rfl
  | p :: r, h => by
    rw [List.any_cons, Bool.or_eq_false_iff] at h
    have h1 : ¬ p.1 = k := of_decide_eq_false h.1
    rw [List.cons_append, lookI, lookI, look_snoc k j v r h.2]
    by_cases e : j = k
    · rw [if_pos e, if_neg (by rw [e]; exact h1), if_pos e]
    · rw [if_neg e, if_neg e]
theorem look_put (m : List (Int × Int)) (k j v : Int) : lookI (putI m k v) j = if j = k then v else lookI m j := by
  unfold putI
  split
  · rename_i h
    by_cases e : j = k
    · rw [if_pos e, e]
      exact look_map_same k v m h
    · rw [if_neg e]
      exact look_map k j v m e
  · rename_i h
    exact look_snoc k j v m (Bool.eq_false_iff.mpr h)
theorem look_add (m : List (Int × Int)) (k j v : Int) : lookI (addI m k v) j = lookI m j + if j = k then v else 0 := by
  unfold addI
  rw [look_put]
  by_cases e : j = k
  · rw [if_pos e, if_pos e, e]
  · rw [if_neg e, if_neg e]
    omega
theorem keys_put (m : List (Int × Int)) (k v : Int) : (putI m k v).map (·.1) = if (m.any fun p => decide (p.1 = k)) = true then m.map (·.1) else m.map (·.1) ++ [k] := by
  unfold putI
  split
  · rw [List.map_map]
    apply List.map_congr_left
    intro p _
    show (if p.1 = k then (p.1, v) else p).1 = p.1
    split <;> rfl
  · rw [List.map_append]
    rfl
theorem any_key (m : List (Int × Int)) (k : Int) : (m.any fun p => decide (p.1 = k)) = true ↔ k ∈ m.map (·.1) := by
  rw [List.any_eq_true]
  constructor
  · rintro ⟨p, hp, e⟩
    exact List.mem_map.mpr ⟨p, hp, of_decide_eq_true e⟩
  · intro h
    obtain ⟨p, hp, e⟩ := List.mem_map.mp h
    exact ⟨p, hp, decide_eq_true e⟩
theorem nodup_put {m : List (Int × Int)} (k v : Int) (h : (m.map (·.1)).Nodup) : ((putI m k v).map (·.1)).Nodup := by
  rw [keys_put]
  split
  · exact h
  · rename_i c
    have hk : k ∉ m.map (·.1) := fun z => c ((any_key m k).mpr z)
    rw [List.nodup_append]
    refine ⟨h, List.nodup_cons.mpr ⟨by simp, List.nodup_nil⟩, fun a ha b hb => ?_⟩
    rw [List.mem_singleton.mp hb]
    exact fun z => hk (z ▸ ha)
theorem len_put (m : List (Int × Int)) (k v : Int) : (putI m k v).length ≤ m.length + 1 := by
  have h := congrArg List.length (keys_put m k v)
  rw [List.length_map] at h
  rw [h]
  split
  · rw [List.length_map]
    omega
  · rw [List.length_append, List.length_map]
    exact Nat.le_refl _
theorem pos_put {m : List (Int × Int)} {k v : Int} (hv : 0 < v) (h : ∀ p ∈ m, 0 < p.2) : ∀ p ∈ putI m k v, 0 < p.2 := by
  intro p hp
  unfold putI at hp
  split at hp
  · obtain ⟨q, hq, e⟩ := List.mem_map.mp hp
    split at e
    · rw [← e]
      exact hv
    · rw [← e]
      exact h q hq
  · rcases List.mem_append.mp hp with hp | hp
    · exact h p hp
    · rw [List.mem_singleton.mp hp]
      exact hv
theorem look_nonneg : ∀ {m : List (Int × Int)} (k : Int), (∀ p ∈ m, 0 < p.2) → 0 ≤ lookI m k
  | [], _, _ => Int.le_refl 0
  | p :: r, k, h => by
    rw [lookI]
    split
    · exact Int.le_of_lt (h p List.mem_cons_self)
    · exact look_nonneg k fun q hq => h q (List.mem_cons_of_mem _ hq)
theorem pos_add {m : List (Int × Int)} {k v : Int} (hv : 0 < v) (h : ∀ p ∈ m, 0 < p.2) : ∀ p ∈ addI m k v, 0 < p.2 :=
  pos_put (by have := look_nonneg k h; omega) h
theorem look_mem {m : List (Int × Int)} (hn : (m.map (·.1)).Nodup) : ∀ {p : Int × Int}, p ∈ m → lookI m p.1 = p.2 := by
  induction m with
  | nil => intro p h; cases h
  | cons q r ih =>
    intro p h
    rw [List.map_cons, List.nodup_cons] at hn
    rw [lookI]
    rcases List.mem_cons.mp h with e | h
    · rw [e, if_pos rfl]
    · have nq : ¬ q.1 = p.1 := fun z => hn.1 (by rw [z]; exact List.mem_map.mpr ⟨p, h, rfl⟩)
      rw [if_neg nq]
      exact ih hn.2 h
theorem look_ne_mem : ∀ {m : List (Int × Int)} {k : Int}, lookI m k ≠ 0 → (k, lookI m k) ∈ m
  | [], k, h => absurd rfl h
  | p :: r, k, h => by
    rw [lookI] at h ⊢
    by_cases e : p.1 = k
    · rw [if_pos e]
      rw [← e]
      exact List.mem_cons_self
    · rw [if_neg e] at h ⊢
      exact List.mem_cons_of_mem _ (look_ne_mem h)

/-! ### throws, as functions of sums -/
/-- a die more: by how many throws each sum comes -/
def conv (g : Int → Int) (ds : List Int) : Int → Int := fun s => (ds.map fun f => g (s - f)).sum
def cnt0 : Int → Int := fun s => if s = 0 then 1 else 0
def cntF (dss : List (List Int)) : Int → Int := dss.foldl conv cnt0
/-- m tells g: each sum once, none that doesn't come -/
structure Tells (m : List (Int × Int)) (g : Int → Int) : Prop where
  nd : (m.map (·.1)).Nodup
  look : ∀ s, lookI m s = g s
  pos : ∀ p ∈ m, 0 < p.2
def inner (t n : Int) (m : List (Int × Int)) (ds : List Int) : List (Int × Int) := ds.foldl (fun m f => addI m (t + f) n) m
def withW (w : List (Int × Int)) (ds : List Int) : List (Int × Int) := w.foldl (fun m p => inner p.1 p.2 m ds) []
theorem inner_snoc (t n : Int) (m : List (Int × Int)) (ds : List Int) (f : Int) : inner t n m (ds ++ [f]) = addI (inner t n m ds) (t + f) n := by
  unfold inner
  rw [List.foldl_append]
  rfl
theorem withW_snoc (w : List (Int × Int)) (p : Int × Int) (ds : List Int) : withW (w ++ [p]) ds = inner p.1 p.2 (withW w ds) ds := by
  unfold withW
  rw [List.foldl_append]
  rfl
theorem inner_look (t n : Int) (s : Int) : ∀ (ds : List Int) (m : List (Int × Int)), lookI (inner t n m ds) s = lookI m s + (ds.map fun f => if s = t + f then n else 0).sum
  | [], m => by
    show lookI m s = lookI m s + 0
    omega
  | f :: r, m => by
    show lookI (inner t n (addI m (t + f) n) r) s = _
    rw [inner_look t n s r, look_add, List.map_cons, List.sum_cons]
    omega
theorem inner_nd (t n : Int) : ∀ (ds : List Int) (m : List (Int × Int)), (m.map (·.1)).Nodup → ((inner t n m ds).map (·.1)).Nodup
  | [], m, h => h
  | f :: r, m, h => inner_nd t n r _ (nodup_put _ _ h)
theorem inner_pos {t n : Int} (hn : 0 < n) : ∀ (ds : List Int) (m : List (Int × Int)), (∀ p ∈ m, 0 < p.2) → ∀ p ∈ inner t n m ds, 0 < p.2
  | [], m, h => h
  | f :: r, m, h => inner_pos hn r _ (pos_add hn h)
theorem inner_len (t n : Int) : ∀ (ds : List Int) (m : List (Int × Int)), (inner t n m ds).length ≤ m.length + ds.length
  | [], m => Nat.le_refl _
  | f :: r, m => by
    show (inner t n (addI m (t + f) n) r).length ≤ _
    have h1 := inner_len t n r (addI m (t + f) n)
    have h2 := len_put m (t + f) (lookI m (t + f) + n)
    rw [List.length_cons]
    unfold addI at h1
    unfold addI
    omega
theorem fold_look (ds : List Int) (s : Int) : ∀ (w m : List (Int × Int)), lookI (w.foldl (fun m p => inner p.1 p.2 m ds) m) s = lookI m s + (w.map fun p => (ds.map fun f => if s = p.1 + f then p.2 else 0).sum).sum
  | [], m => by
    show lookI m s = lookI m s + 0
    omega
  | p :: r, m => by
    show lookI (r.foldl (fun m p => inner p.1 p.2 m ds) (inner p.1 p.2 m ds)) s = _
    rw [fold_look ds s r, inner_look, List.map_cons, List.sum_cons]
    omega
theorem fold_nd (ds : List Int) : ∀ (w m : List (Int × Int)), (m.map (·.1)).Nodup → ((w.foldl (fun m p => inner p.1 p.2 m ds) m).map (·.1)).Nodup
  | [], m, h => h
  | p :: r, m, h => fold_nd ds r _ (inner_nd p.1 p.2 ds m h)
theorem fold_pos (ds : List Int) : ∀ (w m : List (Int × Int)), (∀ p ∈ w, 0 < p.2) → (∀ p ∈ m, 0 < p.2) → ∀ p ∈ w.foldl (fun m p => inner p.1 p.2 m ds) m, 0 < p.2
  | [], m, _, h => h
  | p :: r, m, hw, h => fold_pos ds r _ (fun q hq => hw q (List.mem_cons_of_mem _ hq)) (inner_pos (hw p List.mem_cons_self) ds m h)
theorem fold_len (ds : List Int) : ∀ (w m : List (Int × Int)), (w.foldl (fun m p => inner p.1 p.2 m ds) m).length ≤ m.length + w.length * ds.length
  | [], m => by simp
  | p :: r, m => by
    have h1 := fold_len ds r (inner p.1 p.2 m ds)
    have h2 := inner_len p.1 p.2 ds m
    show (r.foldl (fun m p => inner p.1 p.2 m ds) (inner p.1 p.2 m ds)).length ≤ _
    rw [List.length_cons, Nat.succ_mul]
    omega
theorem withW_len (w : List (Int × Int)) (ds : List Int) : (withW w ds).length ≤ w.length * ds.length := by
  have h := fold_len ds w []
  rw [List.length_nil, Nat.zero_add] at h
  exact h
/-- sums in two orders -/
theorem sum_add {α : Type} (f g : α → Int) : ∀ l : List α, (l.map fun x => f x + g x).sum = (l.map f).sum + (l.map g).sum
  | [] => rfl
  | x :: r => by
    rw [List.map_cons, List.map_cons, List.map_cons, List.sum_cons, List.sum_cons, List.sum_cons, sum_add f g r]
    omega
theorem sum_zero {α : Type} : ∀ l : List α, (l.map fun _ => (0 : Int)).sum = 0
  | [] => rfl
  | _ :: r => by rw [List.map_cons, List.sum_cons, sum_zero r]; rfl
theorem sum_swap {α β : Type} (f : α → β → Int) (bs : List β) : ∀ l : List α, (l.map fun x => (bs.map fun y => f x y).sum).sum = (bs.map fun y => (l.map fun x => f x y).sum).sum
  | [] => by
    show 0 = (bs.map fun _ => (0 : Int)).sum
    rw [sum_zero]
  | x :: r => by
    rw [List.map_cons, List.sum_cons, sum_swap f bs r]
    have e : (bs.map fun y => ((x :: r).map fun x => f x y).sum) = bs.map fun y => f x y + (r.map fun x => f x y).sum := by
      apply List.map_congr_left
      intro y _
      rw [List.map_cons, List.sum_cons]
    rw [e, sum_add]
theorem sum_look : ∀ {m : List (Int × Int)} (k : Int), (m.map (·.1)).Nodup → (m.map fun p => if p.1 = k then p.2 else 0).sum = lookI m k
  | [], _, _ => rfl
  | p :: r, k, h => by
    rw [List.map_cons, List.nodup_cons] at h
    rw [List.map_cons, List.sum_cons, sum_look k h.2, lookI]
    by_cases e : p.1 = k
    · rw [if_pos e, if_pos e]
      have z : lookI r k = 0 := by
        cases Decidable.em (lookI r k = 0) with
        | inl z => exact z
        | inr z => exact absurd (List.mem_map.mpr ⟨_, look_ne_mem z, rfl⟩) (by rw [← e] at z ⊢; exact h.1)
      omega
    · rw [if_neg e, if_neg e]
      omega
theorem tells_with {w : List (Int × Int)} {g : Int → Int} (T : Tells w g) (ds : List Int) : Tells (withW w ds) (conv g ds) where
  nd := fold_nd ds w [] List.nodup_nil
  look := fun s => by
    unfold withW
    rw [fold_look, sum_swap (fun (p : Int × Int) f => if s = p.1 + f then p.2 else 0) ds w]
    show 0 + _ = (ds.map fun f => g (s - f)).sum
    have e : (ds.map fun y => (w.map fun x => if s = x.1 + y then x.2 else 0).sum) = ds.map fun f => g (s - f) := by
      apply List.map_congr_left
      intro f _
      rw [← T.look, ← sum_look (s - f) T.nd]
      congr 1
      apply List.map_congr_left
      intro p _
      by_cases c : s = p.1 + f
      · rw [if_pos c, if_pos (by omega)]
      · rw [if_neg c, if_neg (by omega)]
    rw [e]
    omega
  pos := fold_pos ds w [] T.pos (fun p h => by cases h)
theorem tells_0 : Tells [(0, 1)] cnt0 where
  nd := by decide
  look := fun s => by
    show (if (0 : Int) = s then 1 else 0) = if s = 0 then 1 else 0
    by_cases e : s = 0
    · rw [if_pos e, if_pos e.symm]
    · rw [if_neg e, if_neg fun z => e z.symm]
  pos := by decide
def waysL (dss : List (List Int)) : List (Int × Int) := dss.foldl withW [(0, 1)]
theorem waysL_snoc (dss : List (List Int)) (ds : List Int) : waysL (dss ++ [ds]) = withW (waysL dss) ds := by
  unfold waysL
  rw [List.foldl_append]
  rfl
theorem tells_fold : ∀ (dss : List (List Int)) {w : List (Int × Int)} {g : Int → Int}, Tells w g → Tells (dss.foldl withW w) (dss.foldl conv g)
  | [], _, _, T => T
  | ds :: r, _, _, T => tells_fold r (tells_with T ds)
theorem tells_ways (dss : List (List Int)) : Tells (waysL dss) (cntF dss) := tells_fold dss tells_0
/-- a list of counts: rising sums, each with its number -/
structure IsCounts (g : Int → Int) (out : List (Int × Int)) : Prop where
  rise : out.Pairwise fun a b => a.1 < b.1
  mem : ∀ s n, (s, n) ∈ out ↔ n = g s ∧ n ≠ 0
theorem counts_of_tells {m out : List (Int × Int)} {g : Int → Int} (T : Tells m g) (hp : out.Perm m) (hr : out.Pairwise fun a b => a.1 < b.1) : IsCounts g out where
  rise := hr
  mem := fun s n => by
    rw [hp.mem_iff]
    constructor
    · intro h
      have e := look_mem T.nd h
      rw [T.look] at e
      have p := T.pos _ h
      exact ⟨e.symm, by show n ≠ 0; have p' : 0 < n := p; omega⟩
    · rintro ⟨e, h⟩
      rw [← T.look] at e
      rw [e] at h ⊢
      exact look_ne_mem h
theorem rise_of_lex {out : List (Int × Int)} (hn : (out.map (·.1)).Nodup) (h : out.Pairwise fun a b => SrtO.lexB b a = false) : out.Pairwise fun a b => a.1 < b.1 := by
  have hn2 : out.Pairwise fun a b => a.1 ≠ b.1 := List.pairwise_map.mp hn
  refine (hn2.and h).imp fun {a b} c => ?_
  have d := SrtO.lexB_no.mp c.2
  have := c.1
  omega
theorem counts_uniq : ∀ {l m : List (Int × Int)} {g : Int → Int}, IsCounts g l → IsCounts g m → l = m := by
  have key : ∀ (l m : List (Int × Int)), l.Pairwise (fun a b => a.1 < b.1) → m.Pairwise (fun a b => a.1 < b.1) → (∀ p, p ∈ l ↔ p ∈ m) → l = m := by
    intro l
    induction l with
    | nil =>
      intro m _ _ h
      cases m with
      | nil => rfl
      | cons b r => exact absurd ((h b).mpr List.mem_cons_self) (by simp)
    | cons a l ih =>
      intro m hl hm h
      cases m with
      | nil => exact absurd ((h a).mp List.mem_cons_self) (by simp)
      | cons b r =>
        obtain ⟨hl1, hl2⟩ := List.pairwise_cons.mp hl
        obtain ⟨hm1, hm2⟩ := List.pairwise_cons.mp hm
        have e : a = b := by
          rcases List.mem_cons.mp ((h a).mp List.mem_cons_self) with e | ha
          · exact e
          · rcases List.mem_cons.mp ((h b).mpr List.mem_cons_self) with e | hb
            · exact e.symm
            · have h1 := hl1 b hb
              have h2 := hm1 a ha
              omega
        subst e
        congr 1
        refine ih r hl2 hm2 fun p => ?_
        constructor
        · intro hp
          rcases List.mem_cons.mp ((h p).mp (List.mem_cons_of_mem _ hp)) with e | q
          · have := hl1 p hp
            rw [e] at this
            omega
          · exact q
        · intro hp
          rcases List.mem_cons.mp ((h p).mpr (List.mem_cons_of_mem _ hp)) with e | q
          · have := hm1 p hp
            rw [e] at this
            omega
          · exact q
  intro l m g hl hm
  refine key l m hl.rise hm.rise fun p => ?_
  obtain ⟨s, n⟩ := p
  rw [hl.mem, hm.mem]

/-! ### the order of dice and of faces is nothing -/
theorem sum_perm : ∀ {l m : List Int}, l.Perm m → l.sum = m.sum := by
  intro l m h
  induction h with
  | nil => rfl
  | cons x _ ih => rw [List.sum_cons, List.sum_cons, ih]
  | swap x y l => rw [List.sum_cons, List.sum_cons, List.sum_cons, List.sum_cons]; omega
  | trans _ _ h1 h2 => rw [h1, h2]
theorem conv_perm (g : Int → Int) {a b : List Int} (h : a.Perm b) : conv g a = conv g b := by
  funext s
  exact sum_perm (h.map _)
theorem conv_comm (g : Int → Int) (a b : List Int) : conv (conv g a) b = conv (conv g b) a := by
  funext s
  show (b.map fun f => (a.map fun e => g (s - f - e)).sum).sum = (a.map fun e => (b.map fun f => g (s - e - f)).sum).sum
  rw [sum_swap (fun f e => g (s - f - e)) a b]
  congr 1
  apply List.map_congr_left
  intro e _
  congr 1
  apply List.map_congr_left
  intro f _
  congr 1
  omega
theorem fold_conv_perm {l m : List (List Int)} (h : l.Perm m) : ∀ g, l.foldl conv g = m.foldl conv g := by
  induction h with
  | nil => intro g; rfl
  | cons x _ ih => intro g; exact ih (conv g x)
  | swap x y l =>
    intro g
    show l.foldl conv (conv (conv g y) x) = l.foldl conv (conv (conv g x) y)
    rw [conv_comm]
  | trans _ _ h1 h2 => intro g; rw [h1, h2]
theorem cntF_perm {l m : List (List Int)} (h : l.Perm m) : cntF l = cntF m := fold_conv_perm h cnt0
theorem cntF_head {a b : List Int} (h : a.Perm b) (r : List (List Int)) : cntF (a :: r) = cntF (b :: r) := by
  show r.foldl conv (conv cnt0 a) = r.foldl conv (conv cnt0 b)
  rw [conv_perm cnt0 h]
end My

/-! Walks over a locked dict; lists of lists; a comprehension over a range. -/
namespace My
open PySem PySem.Spec PyProof.Rows L2
section
variable {g : TG} {tb : TS} {D : Ends} {σ : L2.St} {H : Hp} {d : Addr} {o : Obj} {kvs : List (Key × V)}
theorem for_items (Pv : Nat → L2.St → Hp → Prop) (h0 : Pv 0 σ H) (hl : ∀ i σ H, Pv i σ H → H d = some (.frz o (.dK kvs)))
    (hs : ∀ i k v σ H T, kvs[i]? = some (k, v) → Pv i σ H → H T = none → g (.ref T) σ (upd H T (.tup [kV k, v])) fun σ2 H2 => tb { D with nx := Pv (i + 1), ct := Pv (i + 1), bk := D.nx } σ2 H2)
    (hd : ∀ σ H, Pv kvs.length σ H → D.nx σ H) :
    ∃ W : Nat → Nat → L2.St → Hp → Prop, (∃ m, W 0 m σ H) ∧ ∀ i m σ H, W i m σ H →
      ((Iti d o kvs).stop i H ∧ D.nx σ H) ∨ ((Iti d o kvs).go i H ∧ ∃ N : L2.St → Hp → Prop, (∀ σ' H', N σ' H' → ∃ m', m' < m ∧ W (i + 1) m' σ' H') ∧ ∀ x H', (Iti d o kvs).yld i H x H' → g x σ H' fun σ2 H2 => tb { D with nx := N, ct := N, bk := D.nx } σ2 H2) := by
  refine ⟨fun i m σ H => i + m = kvs.length ∧ Pv i σ H, ⟨kvs.length, by omega, h0⟩, ?_⟩
  rintro i m σ H ⟨em, p⟩
  have q := hl i σ H p
  by_cases hi : i < kvs.length
  · refine .inr ⟨⟨q, hi⟩, Pv (i + 1), fun σ' H' p' => ⟨m - 1, by omega, by omega, p'⟩, fun x H' hy => ?_⟩
    obtain ⟨T, k, v, e1, rfl, nT, rfl⟩ := hy
    exact hs i k v σ H T e1 p nT
  · have ei : i = kvs.length := by omega
    subst ei
    exact .inl ⟨⟨q, Nat.le_refl _⟩, hd σ H p⟩
theorem for_keys (Pv : Nat → L2.St → Hp → Prop) (h0 : Pv 0 σ H) (hl : ∀ i σ H, Pv i σ H → H d = some (.frz o (.dK kvs)))
    (hs : ∀ i k v σ H, kvs[i]? = some (k, v) → Pv i σ H → g (kV k) σ H fun σ2 H2 => tb { D with nx := Pv (i + 1), ct := Pv (i + 1), bk := D.nx } σ2 H2)
    (hd : ∀ σ H, Pv kvs.length σ H → D.nx σ H) :
    ∃ W : Nat → Nat → L2.St → Hp → Prop, (∃ m, W 0 m σ H) ∧ ∀ i m σ H, W i m σ H →
      ((Itk d o kvs).stop i H ∧ D.nx σ H) ∨ ((Itk d o kvs).go i H ∧ ∃ N : L2.St → Hp → Prop, (∀ σ' H', N σ' H' → ∃ m', m' < m ∧ W (i + 1) m' σ' H') ∧ ∀ x H', (Itk d o kvs).yld i H x H' → g x σ H' fun σ2 H2 => tb { D with nx := N, ct := N, bk := D.nx } σ2 H2) := by
  refine ⟨fun i m σ H => i + m = kvs.length ∧ Pv i σ H, ⟨kvs.length, by omega, h0⟩, ?_⟩
  rintro i m σ H ⟨em, p⟩
  have q := hl i σ H p
  by_cases hi : i < kvs.length
  · refine .inr ⟨⟨q, hi⟩, Pv (i + 1), fun σ' H' p' => ⟨m - 1, by omega, by omega, p'⟩, fun x H' hy => ?_⟩
    obtain ⟨rfl, k, v, e1, rfl⟩ := hy
    exact hs i k v σ _ e1 p
  · have ei : i = kvs.length := by omega
    subst ei
    exact .inl ⟨⟨q, Nat.le_refl _⟩, hd σ H p⟩
end
/-- under a lock all but the locked one stands; unlocked, all -/
theorem same_unlock {H H' : Hp} {d : Addr} {od : Obj} {u : HO} (hd : H d = some u) (e : Same (upd H d (.frz od u)) H') : Same H (upd H' d u) := fun b o q => by
  by_cases hb : b = d
  · subst hb
    rw [hd] at q
    cases q
    exact upd_same
  · rw [upd_ne hb]
    refine e b o ?_
    rw [upd_ne hb]
    exact q
/-- a list of lists of whole numbers -/
def DiceAt (H : Hp) (a : Addr) (ps : List Addr) (dss : List (List Int)) : Prop :=
  H a = some (.lst (ps.map V.ref)) ∧ Paired (fun p ds => H p = some (.lst (ds.map V.int))) ps dss
theorem paired_at {α β : Type} {F : α → β → Prop} : ∀ {xs : List α} {ys : List β}, Paired F xs ys → ∀ {i : Nat} {x : α}, xs[i]? = some x → ∃ y, ys[i]? = some y ∧ F x y
  | _, _, .nil, i, x, h => by simp at h
  | _, _, .cons r t, 0, x, h => by
    have e := Option.some.inj h
    subst e
    exact ⟨_, rfl, r⟩
  | _, _, .cons r t, i + 1, x, h => paired_at t (i := i) h
theorem paired_mono {α β : Type} {F G : α → β → Prop} {xs : List α} {ys : List β} (h : Paired F xs ys) (k : ∀ a b, F a b → G a b) : Paired G xs ys := by
  induction h with
  | nil => exact .nil
  | cons r t ih => exact .cons (k _ _ r) ih
theorem DiceAt.mono {H H' : Hp} {a : Addr} {ps : List Addr} {dss : List (List Int)} (e : Same H H') (h : DiceAt H a ps dss) : DiceAt H' a ps dss :=
  ⟨e _ _ h.1, paired_mono h.2 fun p ds q => e _ _ q⟩
theorem paired_len {α β : Type} {F : α → β → Prop} {xs : List α} {ys : List β} (h : Paired F xs ys) : xs.length = ys.length := by
  induction h with
  | nil => rfl
  | cons r t ih => rw [List.length_cons, List.length_cons, ih]
theorem paired_snoc {α β : Type} {F : α → β → Prop} {xs : List α} {ys : List β} {x : α} {y : β} (h : Paired F xs ys) (r : F x y) : Paired F (xs ++ [x]) (ys ++ [y]) := by
  induction h with
  | nil => exact .cons r .nil
  | cons q t ih => exact .cons q ih
/-- rows: tuples of two whole numbers -/
def RowsAt (H : Hp) (a : Addr) (ps : List (Addr × Int × Int)) : Prop :=
  H a = some (.lst (ps.map fun z => V.ref z.1)) ∧ ∀ z ∈ ps, H z.1 = some (.tup [.int z.2.1, .int z.2.2])
theorem RowsAt.mono {H H' : Hp} {a : Addr} {ps : List (Addr × Int × Int)} (e : Same H H') (h : RowsAt H a ps) : RowsAt H' a ps :=
  ⟨e _ _ h.1, fun z hz => e _ _ (h.2 z hz)⟩
theorem take_snoc {α : Type} {l : List α} {i : Nat} {x : α} (h : l[i]? = some x) : l.take (i + 1) = l.take i ++ [x] := by
  rw [List.take_add_one, h]
  rfl
end My
namespace My
open PySem PySem.Spec PyProof.Rows L2
/-- a comprehension over a list that makes tuples of two whole numbers -/
theorem lc_pairs {K : PySem.W.Frag} {a : Addr} {xs : List V} {g : TG} {tt : TT} {te : TE} {vs : List Nat} {σ : L2.St} {H1 : Hp} {D : Addr} {Qd : Hp → Prop} (f : V → Int × Int)
    (nD : H1 D = none) (hS : SqL K H1 a xs) (len : xs.length < 1000000)
    (hs : ∀ x H' (R : V → Hp → Prop), x ∈ xs → Same H1 H' → (∀ H4 t, Same H' H4 → H' t = none → H4 t = some (.tup [.int (f x).1, .int (f x).2]) → R (.ref t) H4) →
      ∀ N : Hp → Prop, g x (wipe σ vs) H' fun σ2 H2 => wipe σ2 vs = wipe σ vs ∧ tt σ2 H2 fun b H3 => if b = true then te σ2 H3 R else N H3)
    (hd : ∀ H' (rows : List (Addr × Int × Int)), Same H1 H' → RowsAt H' D rows → (∀ z ∈ rows, H1 z.1 = none) → D ∉ rows.map (·.1) → rows.map (·.2) = xs.map f → Qd H') :
    ∃ W : Nat → Nat → Hp → Prop, (∃ m, W 0 m (upd H1 D (.lst []))) ∧ ∀ i m H, W i m H →
      ((Itl K a).stop i H ∧ Qd H) ∨ ((Itl K a).go i H ∧ ∃ Nx : Hp → Prop, (∀ H', Nx H' → ∃ m', m' < m ∧ W (i + 1) m' H') ∧ ∀ x H', (Itl K a).yld i H x H' → g x (wipe σ vs) H' fun σ2 H2 => wipe σ2 vs = wipe σ vs ∧ tt σ2 H2 fun b H3 =>
        if b = true then te σ2 H3 fun y H4 => ∃ acc, H4 D = some (.lst acc) ∧ acc.length < sizeLine ∧ Nx (upd H4 D (.lst (acc ++ [y]))) else Nx H3) := by
  refine lc_list (K := K) (a := a) (xs := xs) (fun i H => Same H1 H ∧ ∃ rows : List (Addr × Int × Int), RowsAt H D rows ∧ (∀ z ∈ rows, H1 z.1 = none) ∧ D ∉ rows.map (·.1) ∧ rows.map (·.2) = (xs.take i).map f)
    ⟨same_new nD, [], ⟨upd_same, fun z h => by cases h⟩, fun z h => (by cases h), (by simp), rfl⟩ (fun i H _ p => p.1.seq hS) ?_ ?_
  · rintro i x H hi ⟨p1, rows, ⟨r1, r2⟩, r3, r4, r5⟩
    refine hs x H _ (List.mem_of_getElem? hi) p1 (fun H4 t e4 nt ht => ?_) _
    have nDt : D ≠ t := ne_of_none r1 nt
    have l5 : rows.length = i ∨ rows.length ≤ xs.length := by
      have z := congrArg List.length r5
      rw [List.length_map, List.length_map, List.length_take] at z
      omega
    have l6 : rows.length ≤ xs.length := by
      have z := congrArg List.length r5
      rw [List.length_map, List.length_map, List.length_take] at z
      omega
    refine ⟨_, e4 _ _ r1, sz_lt (by rw [List.length_map]; omega), fun b o e => ?_, rows ++ [(t, f x)], ⟨?_, fun z hz => ?_⟩, fun z hz => ?_, ?_, ?_⟩
    · rw [upd_ne (ne_of_none e nD)]
      exact e4 _ _ (p1 _ _ e)
    · rw [upd_same, List.map_append]
      rfl
    · rcases List.mem_append.mp hz with hz | hz
      · rw [upd_ne fun c => r4 (List.mem_map.mpr ⟨z, hz, c⟩)]
        exact e4 _ _ (r2 z hz)
      · rw [List.mem_singleton.mp hz, upd_ne nDt.symm]
        exact ht
    · rcases List.mem_append.mp hz with hz | hz
      · exact r3 z hz
      · rw [List.mem_singleton.mp hz]
        exact Same.free p1 nt
    · rw [List.map_append]
      intro c
      rcases List.mem_append.mp c with c | c
      · exact r4 c
      · exact nDt (List.mem_singleton.mp c)
    · rw [take_snoc hi, List.map_append, List.map_append, r5]
      rfl
  · rintro H ⟨p1, rows, r1, r3, r4, r5⟩
    rw [List.take_length] at r5
    exact hd H rows p1 r1 r3 r4 r5
end My
namespace My
open PySem PySem.Spec PyProof.Rows L2
theorem paired_in {α β : Type} {F : α → β → Prop} {xs : List α} {ys : List β} (h : Paired F xs ys) {G : α → β → Prop} (k : ∀ a b, a ∈ xs → F a b → G a b) : Paired G xs ys := by
  induction h with
  | nil => exact .nil
  | cons r t ih => exact .cons (k _ _ List.mem_cons_self r) (ih fun a b ha => k a b (List.mem_cons_of_mem _ ha))
/-- what a comprehension that makes new lists of whole numbers has made so far -/
structure Made (H1 H : Hp) (D : Addr) (Gd : Nat → List Int → Prop) (n : Nat) : Prop where
  same : Same H1 H
  made : ∃ qs cs, DiceAt H D qs cs ∧ qs.length = n ∧ (∀ q ∈ qs, H1 q = none) ∧ D ∉ qs ∧ qs.Nodup ∧ ∀ i c, cs[i]? = some c → Gd i c
theorem Made.zero {H1 : Hp} {D : Addr} {Gd : Nat → List Int → Prop} (nD : H1 D = none) : Made H1 (upd H1 D (.lst [])) D Gd 0 where
  same := same_new nD
  made := ⟨[], [], ⟨upd_same, .nil⟩, rfl, fun q h => (by cases h), (by simp), List.nodup_nil, fun i c h => by simp at h⟩
theorem Made.more {H1 H H4 : Hp} {D q : Addr} {Gd : Nat → List Int → Prop} {n : Nat} {c : List Int} (nD : H1 D = none) (hn : n < 1000000) (M : Made H1 H D Gd n) (e : Same H H4) (nq : H q = none) (hq : H4 q = some (.lst (c.map V.int))) (g : Gd n c) :
    ∃ acc, H4 D = some (.lst acc) ∧ acc.length < sizeLine ∧ Made H1 (upd H4 D (.lst (acc ++ [.ref q]))) D Gd (n + 1) := by
  obtain ⟨qs, cs, hD, ln, fr, nin, nd, gd⟩ := M.made
  have hDD := e _ _ hD.1
  have nDq : D ≠ q := ne_of_none hD.1 nq
  have lc : qs.length = cs.length := paired_len hD.2
  have nqs : q ∉ qs := fun z => by
    obtain ⟨c', _, r⟩ : ∃ c' ∈ cs, H q = some (.lst (c'.map V.int)) := by
      obtain ⟨i, hi⟩ := List.mem_iff_getElem?.mp z
      obtain ⟨y, hy, r⟩ := paired_at hD.2 hi
      exact ⟨y, List.mem_of_getElem? hy, r⟩
    rw [nq] at r
    cases r
  refine ⟨_, hDD, sz_lt (by rw [List.length_map]; omega), fun b o z => ?_, qs ++ [q], cs ++ [c], ⟨?_, ?_⟩, ?_, fun p hp => ?_, ?_, ?_, fun i d hi => ?_⟩
  · rw [upd_ne (ne_of_none z nD)]
    exact e _ _ (M.same _ _ z)
  · rw [upd_same, List.map_append]
    rfl
  · refine paired_snoc ?_ ?_
    · have nin2 : ∀ p ∈ qs, p ≠ D := fun p hp z => nin (z ▸ hp)
      exact paired_in hD.2 fun p ds hp r => by
        rw [upd_ne (nin2 p hp)]
        exact e _ _ r
    · rw [upd_ne nDq.symm]
      exact hq
  · rw [List.length_append, ln]
    rfl
  · rcases List.mem_append.mp hp with hp | hp
    · exact fr p hp
    · rw [List.mem_singleton.mp hp]
      exact Same.free M.same nq
  · intro z
    rcases List.mem_append.mp z with z | z
    · exact nin z
    · exact nDq (List.mem_singleton.mp z)
  · rw [List.nodup_append]
    refine ⟨nd, List.nodup_cons.mpr ⟨by simp, List.nodup_nil⟩, fun a ha b hb => ?_⟩
    rw [List.mem_singleton.mp hb]
    exact fun z => nqs (z ▸ ha)
  · by_cases hlt : i < cs.length
    · rw [List.getElem?_append_left hlt] at hi
      exact gd i d hi
    · rw [List.getElem?_append_right (by omega)] at hi
      have hi0 : i - cs.length = 0 := by
        cases h0 : i - cs.length with
        | zero => rfl
        | succ k => rw [h0] at hi; simp at hi
      rw [hi0] at hi
      have ed : d = c := (Option.some.inj hi).symm
      have ei : i = n := by omega
      rw [ed, ei]
      exact g
/-- over a range -/
theorem lr_lists {g : TG} {tt : TT} {te : TE} {vs : List Nat} {σ : L2.St} {H1 : Hp} {D : Addr} {Qd : Hp → Prop} {lo : Int} {n : Nat} (Gd : Nat → List Int → Prop) (nD : H1 D = none) (len : n < 1000000)
    (hs : ∀ i H' (R : V → Hp → Prop), i < n → Same H1 H' → (∀ H4 q c, Same H' H4 → H' q = none → H4 q = some (.lst (c.map V.int)) → Gd i c → R (.ref q) H4) →
      ∀ N : Hp → Prop, g (.int (lo + i)) (wipe σ vs) H' fun σ2 H2 => wipe σ2 vs = wipe σ vs ∧ tt σ2 H2 fun b H3 => if b = true then te σ2 H3 R else N H3)
    (hd : ∀ H', Made H1 H' D Gd n → Qd H') :
    ∃ W : Nat → Nat → Hp → Prop, (∃ m, W 0 m (upd H1 D (.lst []))) ∧ ∀ i m H, W i m H →
      ((Itr lo n).stop i H ∧ Qd H) ∨ ((Itr lo n).go i H ∧ ∃ Nx : Hp → Prop, (∀ H', Nx H' → ∃ m', m' < m ∧ W (i + 1) m' H') ∧ ∀ x H', (Itr lo n).yld i H x H' → g x (wipe σ vs) H' fun σ2 H2 => wipe σ2 vs = wipe σ vs ∧ tt σ2 H2 fun b H3 =>
        if b = true then te σ2 H3 fun y H4 => ∃ acc, H4 D = some (.lst acc) ∧ acc.length < sizeLine ∧ Nx (upd H4 D (.lst (acc ++ [y]))) else Nx H3) := by
  refine lc_range (lo := lo) (n := n) (fun i H => Made H1 H D Gd i) (Made.zero nD) ?_ hd
  intro i H hi M
  exact hs i H _ hi M.same (fun H4 q c e nq hq g => M.more nD (by omega) e nq hq g) _
/-- over a list -/
theorem ll_lists {K : PySem.W.Frag} {a : Addr} {xs : List V} {g : TG} {tt : TT} {te : TE} {vs : List Nat} {σ : L2.St} {H1 : Hp} {D : Addr} {Qd : Hp → Prop} (Gd : Nat → List Int → Prop) (nD : H1 D = none) (hS : SqL K H1 a xs) (len : xs.length < 1000000)
    (hs : ∀ i x H' (R : V → Hp → Prop), xs[i]? = some x → Same H1 H' → (∀ H4 q c, Same H' H4 → H' q = none → H4 q = some (.lst (c.map V.int)) → Gd i c → R (.ref q) H4) →
      ∀ N : Hp → Prop, g x (wipe σ vs) H' fun σ2 H2 => wipe σ2 vs = wipe σ vs ∧ tt σ2 H2 fun b H3 => if b = true then te σ2 H3 R else N H3)
    (hd : ∀ H', Made H1 H' D Gd xs.length → Qd H') :
    ∃ W : Nat → Nat → Hp → Prop, (∃ m, W 0 m (upd H1 D (.lst []))) ∧ ∀ i m H, W i m H →
      ((Itl K a).stop i H ∧ Qd H) ∨ ((Itl K a).go i H ∧ ∃ Nx : Hp → Prop, (∀ H', Nx H' → ∃ m', m' < m ∧ W (i + 1) m' H') ∧ ∀ x H', (Itl K a).yld i H x H' → g x (wipe σ vs) H' fun σ2 H2 => wipe σ2 vs = wipe σ vs ∧ tt σ2 H2 fun b H3 =>
        if b = true then te σ2 H3 fun y H4 => ∃ acc, H4 D = some (.lst acc) ∧ acc.length < sizeLine ∧ Nx (upd H4 D (.lst (acc ++ [y]))) else Nx H3) := by
  refine lc_list (K := K) (a := a) (xs := xs) (fun i H => Made H1 H D Gd i) (Made.zero nD) (fun i H _ M => M.same.seq hS) ?_ hd
  intro i x H hi M
  have hl : i < xs.length := (List.getElem?_eq_some_iff.mp hi).1
  exact hs i x H _ hi M.same (fun H4 q c e nq hq g => M.more nD (by omega) e nq hq g) _
theorem paired_reverse {α β : Type} {F : α → β → Prop} {xs : List α} {ys : List β} (h : Paired F xs ys) : Paired F xs.reverse ys.reverse := by
  induction h with
  | nil => exact .nil
  | cons r t ih =>
    rw [List.reverse_cons, List.reverse_cons]
    exact paired_snoc ih r
theorem paired_eq {α β : Type} {F G : α → β → Prop} : ∀ {xs : List α} {ys zs : List β}, Paired F xs ys → Paired G xs zs → (∀ a b c, F a b → G a c → b = c) → ys = zs
  | [], _, _, .nil, .nil, _ => rfl
  | x :: xs, _, _, .cons r t, .cons r' t', k => by rw [k _ _ _ r r', paired_eq t t' k]
end My

/-! Throws, one by one, and what the counts tell of them; a comprehension over a range with a test. -/
namespace My
open PySem PySem.Spec PyProof.Rows L2
/-- the sums of all throws with one die more -/
def more1 (T : List Int) (ds : List Int) : List Int := ds.flatMap fun f => T.map (· + f)
def throwsL (dss : List (List Int)) : List Int := dss.foldl more1 [0]
theorem throwsL_snoc (dss : List (List Int)) (ds : List Int) : throwsL (dss ++ [ds]) = more1 (throwsL dss) ds := by
  unfold throwsL
  rw [List.foldl_append]
  rfl
theorem more1_snoc (T ds : List Int) (f : Int) : more1 T (ds ++ [f]) = more1 T ds ++ T.map (· + f) := by
  unfold more1
  rw [List.flatMap_append]
  simp
theorem more1_len (T : List Int) : ∀ ds : List Int, (more1 T ds).length = ds.length * T.length
  | [] => by simp [more1]
  | f :: r => by
    have ih := more1_len T r
    unfold more1 at ih ⊢
    rw [List.flatMap_cons, List.length_append, List.length_map, ih, List.length_cons, Nat.succ_mul]
    omega
theorem throws_len : ∀ (dss : List (List Int)) (T : List Int), (∀ ds ∈ dss, ds.length ≤ 8) → (dss.foldl more1 T).length ≤ T.length * 8 ^ dss.length
  | [], T, _ => by simp
  | ds :: r, T, h => by
    have h1 := throws_len r (more1 T ds) fun x hx => h x (List.mem_cons_of_mem _ hx)
    have h2 := more1_len T ds
    have h3 : ds.length * T.length ≤ 8 * T.length := Nat.mul_le_mul_right _ (h ds List.mem_cons_self)
    have h4 : (more1 T ds).length * 8 ^ r.length ≤ (8 * T.length) * 8 ^ r.length := Nat.mul_le_mul_right _ (by omega)
    show (r.foldl more1 (more1 T ds)).length ≤ T.length * 8 ^ (r.length + 1)
    rw [Nat.pow_succ, Nat.mul_comm (8 ^ r.length) 8, ← Nat.mul_assoc, Nat.mul_comm T.length 8]
    omega
theorem throws_top {dss : List (List Int)} (h : ∀ ds ∈ dss, ds.length ≤ 8) (l : dss.length ≤ 4) : (throwsL dss).length ≤ 4096 := by
  have h1 := throws_len dss [0] h
  have h2 : (8 : Nat) ^ dss.length ≤ 8 ^ 4 := Nat.pow_le_pow_right (by decide) l
  have h3 : (8 : Nat) ^ 4 = 4096 := by decide
  have h4 : ([0] : List Int).length = 1 := rfl
  rw [h4] at h1
  unfold throwsL
  omega
theorem throws_pos : ∀ (dss : List (List Int)) (T : List Int), (∀ ds ∈ dss, 1 ≤ ds.length) → 1 ≤ T.length → 1 ≤ (dss.foldl more1 T).length
  | [], T, _, h => h
  | ds :: r, T, h, hT => throws_pos r (more1 T ds) (fun x hx => h x (List.mem_cons_of_mem _ hx)) (by
      rw [more1_len]
      exact Nat.mul_pos (h ds List.mem_cons_self) hT)
theorem throws_nonneg : ∀ (dss : List (List Int)) (T : List Int), (∀ ds ∈ dss, ∀ f ∈ ds, 0 ≤ f) → (∀ t ∈ T, 0 ≤ t) → ∀ t ∈ dss.foldl more1 T, 0 ≤ t
  | [], T, _, h => h
  | ds :: r, T, h, hT => throws_nonneg r (more1 T ds) (fun x hx => h x (List.mem_cons_of_mem _ hx)) fun t ht => by
      obtain ⟨f, hf, ht⟩ := List.mem_flatMap.mp ht
      obtain ⟨u, hu, rfl⟩ := List.mem_map.mp ht
      have h1 := h ds List.mem_cons_self f hf
      have h2 := hT u hu
      show 0 ≤ u + f
      omega
/-! ### counting -/
def cntT (T : List Int) : Int → Int := fun s => ((T.count s : Nat) : Int)
theorem count_shift (f s : Int) : ∀ T : List Int, (T.map (· + f)).count s = T.count (s - f)
  | [] => rfl
  | t :: r => by
    rw [List.map_cons, List.count_cons, List.count_cons, count_shift f s r]
    have e : ((t + f == s) : Bool) = (t == s - f) := by
      rw [Bool.eq_iff_iff, beq_iff_eq, beq_iff_eq]
      omega
    rw [e]
theorem cnt_more (T : List Int) : ∀ ds : List Int, cntT (more1 T ds) = conv (cntT T) ds
  | [] => by
    funext s
    show (((more1 T []).count s : Nat) : Int) = 0
    simp [more1]
  | f :: r => by
    funext s
    have ih := congrFun (cnt_more T r) s
    show (((more1 T (f :: r)).count s : Nat) : Int) = cntT T (s - f) + (r.map fun f => cntT T (s - f)).sum
    have ih2 : (((more1 T r).count s : Nat) : Int) = (r.map fun f => cntT T (s - f)).sum := ih
    rw [← ih2]
    show ((((f :: r).flatMap fun f => T.map (· + f)).count s : Nat) : Int) = _
    rw [List.flatMap_cons, List.count_append, count_shift]
    show ((T.count (s - f) + (more1 T r).count s : Nat) : Int) = ((T.count (s - f) : Nat) : Int) + (((more1 T r).count s : Nat) : Int)
    omega
theorem cnt_throws_from : ∀ (dss : List (List Int)) (T : List Int) (g : Int → Int), cntT T = g → cntT (dss.foldl more1 T) = dss.foldl conv g
  | [], T, g, h => h
  | ds :: r, T, g, h => cnt_throws_from r (more1 T ds) (conv g ds) (by rw [cnt_more, h])
theorem cnt_throws (dss : List (List Int)) : cntT (throwsL dss) = cntF dss := cnt_throws_from dss [0] cnt0 (by
  funext s
  show ((([0] : List Int).count s : Nat) : Int) = if s = 0 then 1 else 0
  rw [List.count_cons]
  by_cases e : s = 0
  · rw [if_pos e, e]
    rfl
  · have e2 : ((0 : Int) == s) = false := beq_eq_false_iff_ne.mpr fun z => e z.symm
    rw [if_neg e, e2]
    rfl)
theorem sum_one (keep : Int → Bool) (t : Int) : ∀ ks : List Int, ks.Nodup → t ∈ ks → ((ks.map fun k => if keep k = true then (if t = k then (1 : Int) else 0) else 0).sum = if keep t = true then 1 else 0)
  | [], _, h => by cases h
  | k :: r, hn, h => by
    obtain ⟨h1, h2⟩ := List.nodup_cons.mp hn
    rw [List.map_cons, List.sum_cons]
    by_cases e : t = k
    · have z : (r.map fun k => if keep k = true then (if t = k then (1 : Int) else 0) else 0) = r.map fun _ => (0 : Int) := by
        apply List.map_congr_left
        intro j hj
        have : ¬ t = j := fun c => h1 (by rw [← e, c]; exact hj)
        rw [if_neg this]
        split <;> rfl
      rw [z, sum_zero, ← e, if_pos rfl]
      omega
    · have hr : t ∈ r := (List.mem_cons.mp h).resolve_left e
      rw [sum_one keep t r h2 hr, if_neg e]
      have : (if keep k = true then (0 : Int) else 0) = 0 := by split <;> rfl
      rw [this]
      omega
theorem sum_count (keep : Int → Bool) (ks : List Int) (hn : ks.Nodup) : ∀ T : List Int, (∀ t ∈ T, t ∈ ks) → (ks.map fun k => if keep k = true then cntT T k else 0).sum = (((T.filter keep).length : Nat) : Int)
  | [], _ => by
    have z : (ks.map fun k => if keep k = true then cntT [] k else 0) = ks.map fun _ => (0 : Int) := by
      apply List.map_congr_left
      intro j _
      show (if keep j = true then (((([] : List Int).count j : Nat)) : Int) else 0) = 0
      simp
    rw [z, sum_zero]
    rfl
  | t :: T, h => by
    have ih := sum_count keep ks hn T fun u hu => h u (List.mem_cons_of_mem _ hu)
    have e : (ks.map fun k => if keep k = true then cntT (t :: T) k else 0) = ks.map fun k => (if keep k = true then cntT T k else 0) + (if keep k = true then (if t = k then (1 : Int) else 0) else 0) := by
      apply List.map_congr_left
      intro k _
      show (if keep k = true then (((t :: T).count k : Nat) : Int) else 0) = (if keep k = true then ((T.count k : Nat) : Int) else 0) + _
      by_cases c : keep k = true
      · rw [if_pos c, if_pos c, if_pos c, List.count_cons]
        by_cases e : t = k
        · rw [if_pos e, e]
          simp
        · have e2 : (t == k) = false := beq_eq_false_iff_ne.mpr e
          rw [if_neg e, e2]
          simp
      · rw [if_neg c, if_neg c, if_neg c]
        rfl
    rw [e, sum_add, ih, sum_one keep t ks hn (h t List.mem_cons_self), List.filter_cons]
    split
    · rw [List.length_cons]
      omega
    · omega
/-- what counts tell of the throws: how many of them are kept -/
theorem counts_kept {out : List (Int × Int)} {T : List Int} (keep : Int → Bool) (h : IsCounts (cntT T) out) : ((out.filter fun p => keep p.1).map (·.2)).sum = (((T.filter keep).length : Nat) : Int) := by
  have hn : (out.map (·.1)).Nodup := by
    have : out.Pairwise fun a b => a.1 ≠ b.1 := h.rise.imp fun {a b} c => by omega
    exact List.pairwise_map.mpr this
  have hin : ∀ t ∈ T, t ∈ out.map (·.1) := fun t ht => List.mem_map.mpr ⟨(t, cntT T t), (h.mem _ _).mpr ⟨rfl, by
    have : 0 < T.count t := List.count_pos_iff.mpr ht
    show ((T.count t : Nat) : Int) ≠ 0
    omega⟩, rfl⟩
  rw [← sum_count keep _ hn T hin, List.map_map]
  have all : ∀ p ∈ out, p.2 = cntT T p.1 := fun p hp => ((h.mem p.1 p.2).mp hp).1
  clear hin hn h
  induction out with
  | nil => rfl
  | cons p r ih =>
    have ih2 := ih fun q hq => all q (List.mem_cons_of_mem _ hq)
    rw [List.map_cons, List.sum_cons, ← ih2, List.filter_cons]
    show _ = (if keep p.1 = true then cntT T p.1 else 0) + _
    by_cases c : keep p.1 = true
    · rw [if_pos c, if_pos c, List.map_cons, List.sum_cons, all p List.mem_cons_self]
    · rw [if_neg c, if_neg c]
      omega
/-- all of them -/
theorem counts_all {out : List (Int × Int)} {T : List Int} (h : IsCounts (cntT T) out) : (out.map (·.2)).sum = ((T.length : Nat) : Int) := by
  have z := counts_kept (fun _ => true) h
  rw [List.filter_eq_self.mpr (fun _ _ => rfl), List.filter_eq_self.mpr (fun _ _ => rfl)] at z
  exact z

/-! ### a comprehension over a range, with a test -/
section
variable {K : PySem.W.Frag}
def rangeV (lo : Int) (n : Nat) : List Int := (List.range n).map fun i => lo + ((i : Nat) : Int)
theorem rangeV_snoc (lo : Int) (n : Nat) : rangeV lo (n + 1) = rangeV lo n ++ [lo + ((n : Nat) : Int)] := by
  unfold rangeV
  rw [List.range_succ, List.map_append]
  rfl
theorem rangeV_len (lo : Int) (n : Nat) : (rangeV lo n).length = n := by
  unfold rangeV
  rw [List.length_map, List.length_range]
theorem rangeV_mem {lo : Int} {n : Nat} {z : Int} : z ∈ rangeV lo n ↔ lo ≤ z ∧ z < lo + n := by
  unfold rangeV
  rw [List.mem_map]
  constructor
  · rintro ⟨i, hi, rfl⟩
    have := List.mem_range.mp hi
    omega
  · rintro ⟨h1, h2⟩
    exact ⟨(z - lo).toNat, List.mem_range.mpr (by omega), by omega⟩
theorem lr_map {g : TG} {tt : TT} {te : TE} {vs : List Nat} {σ : L2.St} {H1 : Hp} {D : Addr} {Qd : Hp → Prop} {lo : Int} {n : Nat} (keep : Int → Bool) (f : Int → V)
    (nD : H1 D = none) (len : n < 1000000)
    (hs : ∀ z H' (R : V → Hp → Prop) (N : Hp → Prop), lo ≤ z → z < lo + n → Same H1 H' → (keep z = true → ∀ H4, Same H' H4 → R (f z) H4) → (keep z = false → ∀ H4, Same H' H4 → N H4) →
      g (.int z) (wipe σ vs) H' fun σ2 H2 => wipe σ2 vs = wipe σ vs ∧ tt σ2 H2 fun b H3 => if b = true then te σ2 H3 R else N H3)
    (hd : ∀ H', Same H1 H' → H' D = some (.lst (((rangeV lo n).filter keep).map f)) → Qd H') :
    ∃ W : Nat → Nat → Hp → Prop, (∃ m, W 0 m (upd H1 D (.lst []))) ∧ ∀ i m H, W i m H →
      ((Itr lo n).stop i H ∧ Qd H) ∨ ((Itr lo n).go i H ∧ ∃ Nx : Hp → Prop, (∀ H', Nx H' → ∃ m', m' < m ∧ W (i + 1) m' H') ∧ ∀ x H', (Itr lo n).yld i H x H' → g x (wipe σ vs) H' fun σ2 H2 => wipe σ2 vs = wipe σ vs ∧ tt σ2 H2 fun b H3 =>
        if b = true then te σ2 H3 fun y H4 => ∃ acc, H4 D = some (.lst acc) ∧ acc.length < sizeLine ∧ Nx (upd H4 D (.lst (acc ++ [y]))) else Nx H3) := by
  refine lc_range (lo := lo) (n := n) (fun i H => Same H1 H ∧ H D = some (.lst (((rangeV lo i).filter keep).map f))) ⟨same_new nD, upd_same⟩ ?_ (fun H p => hd H p.1 p.2)
  intro i H hi p
  obtain ⟨p1, p2⟩ := p
  refine hs (lo + i) H _ _ (by omega) (by omega) p1 (fun kx H4 e4 => ?_) (fun kx H4 e4 => ?_)
  · refine ⟨_, e4 _ _ p2, ?_, fun b o e => ?_, ?_⟩
    · refine sz_lt (Nat.lt_of_le_of_lt ?_ len)
      rw [List.length_map]
      refine Nat.le_trans (List.length_filter_le _ _) ?_
      rw [rangeV_len]
      omega
    · rw [upd_ne (ne_of_none e nD)]
      exact e4 _ _ (p1 _ _ e)
    · rw [upd_same, rangeV_snoc, List.filter_append, List.map_append]
      simp [List.filter_cons, kx]
  · refine ⟨p1.trans e4, ?_⟩
    rw [e4 _ _ p2, rangeV_snoc, List.filter_append, List.map_append]
    simp [List.filter_cons, kx]
end
end My
namespace My
open PySem PySem.Spec PyProof.Rows L2
/-- a comprehension over rows -/
theorem lc_rows {K : PySem.W.Frag} {a : Addr} {rows : List (Addr × Int × Int)} {g : TG} {tt : TT} {te : TE} {vs : List Nat} {σ : L2.St} {H1 : Hp} {D : Addr} {Qd : Hp → Prop} (keep : Int × Int → Bool) (f : Int × Int → V)
    (nD : H1 D = none) (hS : RowsAt H1 a rows) (len : rows.length < 1000000)
    (hs : ∀ z H' (R : V → Hp → Prop) (N : Hp → Prop), z ∈ rows → Same H1 H' → H' z.1 = some (.tup [.int z.2.1, .int z.2.2]) → (keep z.2 = true → ∀ H4, Same H' H4 → R (f z.2) H4) → (keep z.2 = false → ∀ H4, Same H' H4 → N H4) →
      g (.ref z.1) (wipe σ vs) H' fun σ2 H2 => wipe σ2 vs = wipe σ vs ∧ tt σ2 H2 fun b H3 => if b = true then te σ2 H3 R else N H3)
    (hd : ∀ H', Same H1 H' → H' D = some (.lst (((rows.map (·.2)).filter keep).map f)) → Qd H') :
    ∃ W : Nat → Nat → Hp → Prop, (∃ m, W 0 m (upd H1 D (.lst []))) ∧ ∀ i m H, W i m H →
      ((Itl K a).stop i H ∧ Qd H) ∨ ((Itl K a).go i H ∧ ∃ Nx : Hp → Prop, (∀ H', Nx H' → ∃ m', m' < m ∧ W (i + 1) m' H') ∧ ∀ x H', (Itl K a).yld i H x H' → g x (wipe σ vs) H' fun σ2 H2 => wipe σ2 vs = wipe σ vs ∧ tt σ2 H2 fun b H3 =>
        if b = true then te σ2 H3 fun y H4 => ∃ acc, H4 D = some (.lst acc) ∧ acc.length < sizeLine ∧ Nx (upd H4 D (.lst (acc ++ [y]))) else Nx H3) := by
  refine lc_list (K := K) (a := a) (xs := rows.map fun z => V.ref z.1) (fun i H => Same H1 H ∧ H D = some (.lst ((((rows.take i).map (·.2)).filter keep).map f))) ⟨same_new nD, upd_same⟩ (fun i H _ p => sq_of (p.1 _ _ hS.1)) ?_ ?_
  · intro i x H hi p
    obtain ⟨p1, p2⟩ := p
    rw [List.getElem?_map] at hi
    cases hz : rows[i]? with
    | none => rw [hz] at hi; cases hi
    | some z =>
      rw [hz] at hi
      cases hi
      have hm := List.mem_of_getElem? hz
      refine hs z H _ _ hm p1 (p1 _ _ (hS.2 z hm)) (fun kx H4 e4 => ?_) (fun kx H4 e4 => ?_)
      · refine ⟨_, e4 _ _ p2, ?_, fun b o e => ?_, ?_⟩
        · refine sz_lt (Nat.lt_of_le_of_lt ?_ len)
          rw [List.length_map]
          refine Nat.le_trans (List.length_filter_le _ _) ?_
          rw [List.length_map, List.length_take]
          exact Nat.min_le_right _ _
        · rw [upd_ne (ne_of_none e nD)]
          exact e4 _ _ (p1 _ _ e)
        · rw [upd_same, take_snoc hz, List.map_append, List.filter_append, List.map_append]
          simp [List.filter_cons, kx]
      · refine ⟨p1.trans e4, ?_⟩
        rw [e4 _ _ p2, take_snoc hz, List.map_append, List.filter_append, List.map_append]
        simp [List.filter_cons, kx]
  · intro H p
    obtain ⟨p1, p2⟩ := p
    rw [List.length_map, List.take_length] at p2
    exact hd H p1 p2
end My

namespace My
open PySem PySem.Spec PyProof.Rows L2
open PySem.W (Datum Tup)
/-! ### the text -/
def topS (i : Nat) : Stmt := PySem.Challenge.pw_dicepairs_k03_sums_that_are_enough.main.body.getD i (.Pass ⟨0, 0, 0, 0⟩)
abbrev st_is_number : Stmt := topS 11
abbrev nm_is_number : List Str := ["thing"]
theorem sc_is_number : FnScope nm_is_number ["thing"] (defScope st_is_number) := ⟨rfl, rfl, rfl, by decide +kernel, rfl, by decide +kernel, by decide +kernel⟩
abbrev st_is_face : Stmt := topS 12
abbrev nm_is_face : List Str := ["thing"]
theorem sc_is_face : FnScope nm_is_face ["thing"] (defScope st_is_face) := ⟨rfl, rfl, rfl, by decide +kernel, rfl, by decide +kernel, by decide +kernel⟩
abbrev st_is_die : Stmt := topS 13
abbrev nm_is_die : List Str := ["thing", "face"]
theorem sc_is_die : FnScope nm_is_die ["thing"] (defScope st_is_die) := ⟨rfl, rfl, rfl, by decide +kernel, rfl, by decide +kernel, by decide +kernel⟩
abbrev st_need_dice : Stmt := topS 14
abbrev nm_need_dice : List Str := ["thing", "most", "die"]
theorem sc_need_dice : FnScope nm_need_dice ["thing", "most"] (defScope st_need_dice) := ⟨rfl, rfl, rfl, by decide +kernel, rfl, by decide +kernel, by decide +kernel⟩
abbrev st_share : Stmt := topS 15
abbrev nm_share : List Str := ["n", "d", "common"]
theorem sc_share : FnScope nm_share ["n", "d"] (defScope st_share) := ⟨rfl, rfl, rfl, by decide +kernel, rfl, by decide +kernel, by decide +kernel⟩
abbrev st_counts : Stmt := topS 18
abbrev nm_counts : List Str := ["dice", "ways", "die"]
theorem sc_counts : FnScope nm_counts ["dice"] (defScope st_counts) := ⟨rfl, rfl, rfl, by decide +kernel, rfl, by decide +kernel, by decide +kernel⟩
abbrev st_ways_with : Stmt := topS 19
abbrev nm_ways_with : List Str := ["ways", "die", "more", "total", "many", "face"]
theorem sc_ways_with : FnScope nm_ways_with ["ways", "die"] (defScope st_ways_with) := ⟨rfl, rfl, rfl, by decide +kernel, rfl, by decide +kernel, by decide +kernel⟩
abbrev st_at_least : Stmt := topS 20
abbrev nm_at_least : List Str := ["dice", "bound", "rows", "enough", "thrown", "total", "many", "row"]
theorem sc_at_least : FnScope nm_at_least ["dice", "bound"] (defScope st_at_least) := ⟨rfl, rfl, rfl, by decide +kernel, rfl, by decide +kernel, by decide +kernel⟩
abbrev st_law_draw : Stmt := topS 22
abbrev nm_law_draw : List Str := ["_law_script", "_law_k", "_law_cell", "_law_number"]
theorem sc_law_draw : FnScope nm_law_draw ["_law_script", "_law_k"] (defScope st_law_draw) := ⟨rfl, rfl, rfl, by decide +kernel, rfl, by decide +kernel, by decide +kernel⟩
abbrev st_law_word : Stmt := topS 23
abbrev nm_law_word : List Str := ["_law_e", "_law_some", "_law_found", "_law_word_here", "_law_is_so"]
theorem sc_law_word : FnScope nm_law_word ["_law_e"] (defScope st_law_word) := ⟨rfl, rfl, rfl, by decide +kernel, rfl, by decide +kernel, by decide +kernel⟩
abbrev st_law_whole : Stmt := topS 24
abbrev nm_law_whole : List Str := ["_law_found"]
theorem sc_law_whole : FnScope nm_law_whole ["_law_found"] (defScope st_law_whole) := ⟨rfl, rfl, rfl, by decide +kernel, rfl, by decide +kernel, by decide +kernel⟩
abbrev st_law_die : Stmt := topS 25
abbrev nm_law_die : List Str := ["_law_script", "_law_k", "_law_most", "_law_top", "_law_number", "_law_found", "_law_j", "_law_face"]
theorem sc_law_die : FnScope nm_law_die ["_law_script", "_law_k", "_law_most", "_law_top"] (defScope st_law_die) := ⟨rfl, rfl, rfl, by decide +kernel, rfl, by decide +kernel, by decide +kernel⟩
abbrev st_law_share : Stmt := topS 26
abbrev nm_law_share : List Str := ["_law_n", "_law_d", "_law_found", "_law_by", "_law_k"]
theorem sc_law_share : FnScope nm_law_share ["_law_n", "_law_d"] (defScope st_law_share) := ⟨rfl, rfl, rfl, by decide +kernel, rfl, by decide +kernel, by decide +kernel⟩
abbrev st_law_is : Stmt := topS 27
abbrev nm_law_is : List Str := ["_law_found", "_law_due", "_law_part"]
theorem sc_law_is : FnScope nm_law_is ["_law_found", "_law_due"] (defScope st_law_is) := ⟨rfl, rfl, rfl, by decide +kernel, rfl, by decide +kernel, by decide +kernel⟩
abbrev st_law_throws : Stmt := topS 28
abbrev nm_law_throws : List Str := ["_law_dice", "_law_found", "_law_die_here", "_law_more", "_law_face", "_law_total"]
theorem sc_law_throws : FnScope nm_law_throws ["_law_dice"] (defScope st_law_throws) := ⟨rfl, rfl, rfl, by decide +kernel, rfl, by decide +kernel, by decide +kernel⟩
abbrev st_law_refused : Stmt := topS 29
abbrev nm_law_refused : List Str := ["_law_way", "_law_dice", "_law_bound", "_law_caught", "_law_e"]
theorem sc_law_refused : FnScope nm_law_refused ["_law_way", "_law_dice", "_law_bound"] (defScope st_law_refused) := ⟨rfl, rfl, rfl, by decide +kernel, rfl, by decide +kernel, by decide +kernel⟩
abbrev st_law : Stmt := topS 30
abbrev nm_law : List Str := ["_law_script", "_law_number", "_law_most", "_law_top", "_law_k", "_law_dice", "_law_sums", "_law_kept", "_law_more", "_law_some", "_law_bound", "_law_due", "_law_face", "_law_bad", "_law_wrong", "_law_odd", "_law_die_here", "_law_total"]
theorem sc_law : FnScope nm_law ["_law_script"] (defScope st_law) := ⟨rfl, rfl, rfl, by decide +kernel, rfl, by decide +kernel, by decide +kernel⟩
/-! ### what the top has written -/
structure Lay (K : PySem.W.Frag) (mg : Str → Option Value) where
  n_isinstance : mg "isinstance" = none
  n_int : mg "int" = none
  n_bool : mg "bool" = none
  n_list : mg "list" = none
  n_len : mg "len" = none
  n_all : mg "all" = none
  n_sorted : mg "sorted" = none
  n_sum : mg "sum" = none
  n_ValueError : mg "ValueError" = none
  n_range : mg "range" = none
  n_max : mg "max" = none
  n_min : mg "min" = none
  n_tuple : mg "tuple" = none
  m_gcd : mg "gcd" = some (.builtin "math.gcd")
  t_MOST_FACES : Tok
  c_MOST_FACES : mg "MOST_FACES" = some (.int 8 t_MOST_FACES)
  t_GREATEST_FACE : Tok
  c_GREATEST_FACE : mg "GREATEST_FACE" = some (.int 99 t_GREATEST_FACE)
  t_MOST_DICE : Tok
  c_MOST_DICE : mg "MOST_DICE" = some (.int 4 t_MOST_DICE)
  a_DiceError : Addr
  g_DiceError : mg "DiceError" = some (.ref a_DiceError)
  x_DiceError : ExFacts K a_DiceError
  a_BadDie : Addr
  g_BadDie : mg "BadDie" = some (.ref a_BadDie)
  x_BadDie : ExFacts K a_BadDie
  a_BadDice : Addr
  g_BadDice : mg "BadDice" = some (.ref a_BadDice)
  x_BadDice : ExFacts K a_BadDice
  a_BadNumber : Addr
  g_BadNumber : mg "BadNumber" = some (.ref a_BadNumber)
  x_BadNumber : ExFacts K a_BadNumber
  a_BadCounts : Addr
  g_BadCounts : mg "BadCounts" = some (.ref a_BadCounts)
  x_BadCounts : ExFacts K a_BadCounts
  a_BadText : Addr
  g_BadText : mg "BadText" = some (.ref a_BadText)
  x_BadText : ExFacts K a_BadText
  s_BadDice_DiceError : PySem.W.kitOne K (.ref a_BadDice) (.ref a_DiceError) = some true
  e_BadDice_DiceError : PySem.W.subIn K (.ref a_BadDice) (.ref a_DiceError) = some true
  s_BadDice_BadDie : PySem.W.kitOne K (.ref a_BadDice) (.ref a_BadDie) = some false
  e_BadDice_BadDie : PySem.W.subIn K (.ref a_BadDice) (.ref a_BadDie) = some false
  s_BadDice_BadDice : PySem.W.kitOne K (.ref a_BadDice) (.ref a_BadDice) = some true
  e_BadDice_BadDice : PySem.W.subIn K (.ref a_BadDice) (.ref a_BadDice) = some true
  s_BadDice_BadNumber : PySem.W.kitOne K (.ref a_BadDice) (.ref a_BadNumber) = some false
  e_BadDice_BadNumber : PySem.W.subIn K (.ref a_BadDice) (.ref a_BadNumber) = some false
  s_BadDice_BadCounts : PySem.W.kitOne K (.ref a_BadDice) (.ref a_BadCounts) = some false
  e_BadDice_BadCounts : PySem.W.subIn K (.ref a_BadDice) (.ref a_BadCounts) = some false
  s_BadDice_BadText : PySem.W.kitOne K (.ref a_BadDice) (.ref a_BadText) = some false
  e_BadDice_BadText : PySem.W.subIn K (.ref a_BadDice) (.ref a_BadText) = some false
  s_BadNumber_DiceError : PySem.W.kitOne K (.ref a_BadNumber) (.ref a_DiceError) = some true
  e_BadNumber_DiceError : PySem.W.subIn K (.ref a_BadNumber) (.ref a_DiceError) = some true
  s_BadNumber_BadDie : PySem.W.kitOne K (.ref a_BadNumber) (.ref a_BadDie) = some false
  e_BadNumber_BadDie : PySem.W.subIn K (.ref a_BadNumber) (.ref a_BadDie) = some false
  s_BadNumber_BadDice : PySem.W.kitOne K (.ref a_BadNumber) (.ref a_BadDice) = some false
  e_BadNumber_BadDice : PySem.W.subIn K (.ref a_BadNumber) (.ref a_BadDice) = some false
  s_BadNumber_BadNumber : PySem.W.kitOne K (.ref a_BadNumber) (.ref a_BadNumber) = some true
  e_BadNumber_BadNumber : PySem.W.subIn K (.ref a_BadNumber) (.ref a_BadNumber) = some true
  s_BadNumber_BadCounts : PySem.W.kitOne K (.ref a_BadNumber) (.ref a_BadCounts) = some false
  e_BadNumber_BadCounts : PySem.W.subIn K (.ref a_BadNumber) (.ref a_BadCounts) = some false
  s_BadNumber_BadText : PySem.W.kitOne K (.ref a_BadNumber) (.ref a_BadText) = some false
  e_BadNumber_BadText : PySem.W.subIn K (.ref a_BadNumber) (.ref a_BadText) = some false
  z_DiceError : PySem.W.kitOne K (.type "NoneType") (.ref a_DiceError) = some false
  v_DiceError : PySem.W.kitOne K (.ref a_DiceError) (.type "ValueError") = some true
  z_BadDie : PySem.W.kitOne K (.type "NoneType") (.ref a_BadDie) = some false
  v_BadDie : PySem.W.kitOne K (.ref a_BadDie) (.type "ValueError") = some true
  z_BadDice : PySem.W.kitOne K (.type "NoneType") (.ref a_BadDice) = some false
  v_BadDice : PySem.W.kitOne K (.ref a_BadDice) (.type "ValueError") = some true
  z_BadNumber : PySem.W.kitOne K (.type "NoneType") (.ref a_BadNumber) = some false
  v_BadNumber : PySem.W.kitOne K (.ref a_BadNumber) (.type "ValueError") = some true
  z_BadCounts : PySem.W.kitOne K (.type "NoneType") (.ref a_BadCounts) = some false
  v_BadCounts : PySem.W.kitOne K (.ref a_BadCounts) (.type "ValueError") = some true
  z_BadText : PySem.W.kitOne K (.type "NoneType") (.ref a_BadText) = some false
  v_BadText : PySem.W.kitOne K (.ref a_BadText) (.type "ValueError") = some true
  a_is_number : Addr
  d_is_number : FuncData
  g_is_number : mg "is_number" = some (.ref a_is_number)
  f_is_number : Fun K "is_number" "is_number" st_is_number a_is_number d_is_number
  b_is_number : Binds K d_is_number ["thing"] []
  a_is_face : Addr
  d_is_face : FuncData
  g_is_face : mg "is_face" = some (.ref a_is_face)
  f_is_face : Fun K "is_face" "is_face" st_is_face a_is_face d_is_face
  b_is_face : Binds K d_is_face ["thing"] []
  a_is_die : Addr
  d_is_die : FuncData
  g_is_die : mg "is_die" = some (.ref a_is_die)
  f_is_die : Fun K "is_die" "is_die" st_is_die a_is_die d_is_die
  b_is_die : Binds K d_is_die ["thing"] []
  a_need_dice : Addr
  d_need_dice : FuncData
  g_need_dice : mg "need_dice" = some (.ref a_need_dice)
  f_need_dice : Fun K "need_dice" "need_dice" st_need_dice a_need_dice d_need_dice
  b_need_dice : Binds K d_need_dice ["thing", "most"] []
  a_share : Addr
  d_share : FuncData
  g_share : mg "share" = some (.ref a_share)
  f_share : Fun K "share" "share" st_share a_share d_share
  b_share : Binds K d_share ["n", "d"] []
  a_counts : Addr
  d_counts : FuncData
  g_counts : mg "counts" = some (.ref a_counts)
  f_counts : Fun K "counts" "counts" st_counts a_counts d_counts
  b_counts : Binds K d_counts ["dice"] []
  a_ways_with : Addr
  d_ways_with : FuncData
  g_ways_with : mg "ways_with" = some (.ref a_ways_with)
  f_ways_with : Fun K "ways_with" "ways_with" st_ways_with a_ways_with d_ways_with
  b_ways_with : Binds K d_ways_with ["ways", "die"] []
  a_at_least : Addr
  d_at_least : FuncData
  g_at_least : mg "at_least" = some (.ref a_at_least)
  f_at_least : Fun K "at_least" "at_least" st_at_least a_at_least d_at_least
  b_at_least : Binds K d_at_least ["dice", "bound"] []
  a_law_draw : Addr
  d_law_draw : FuncData
  g_law_draw : mg "_law_draw" = some (.ref a_law_draw)
  f_law_draw : Fun K "_law_draw" "_law_draw" st_law_draw a_law_draw d_law_draw
  b_law_draw : Binds K d_law_draw ["_law_script", "_law_k"] []
  a_law_word : Addr
  d_law_word : FuncData
  g_law_word : mg "_law_word" = some (.ref a_law_word)
  f_law_word : Fun K "_law_word" "_law_word" st_law_word a_law_word d_law_word
  b_law_word : Binds K d_law_word ["_law_e"] []
  a_law_whole : Addr
  d_law_whole : FuncData
  g_law_whole : mg "_law_whole" = some (.ref a_law_whole)
  f_law_whole : Fun K "_law_whole" "_law_whole" st_law_whole a_law_whole d_law_whole
  b_law_whole : Binds K d_law_whole ["_law_found"] []
  a_law_die : Addr
  d_law_die : FuncData
  g_law_die : mg "_law_die" = some (.ref a_law_die)
  f_law_die : Fun K "_law_die" "_law_die" st_law_die a_law_die d_law_die
  b_law_die : Binds K d_law_die ["_law_script", "_law_k", "_law_most", "_law_top"] []
  a_law_share : Addr
  d_law_share : FuncData
  g_law_share : mg "_law_share" = some (.ref a_law_share)
  f_law_share : Fun K "_law_share" "_law_share" st_law_share a_law_share d_law_share
  b_law_share : Binds K d_law_share ["_law_n", "_law_d"] []
  a_law_is : Addr
  d_law_is : FuncData
  g_law_is : mg "_law_is" = some (.ref a_law_is)
  f_law_is : Fun K "_law_is" "_law_is" st_law_is a_law_is d_law_is
  b_law_is : Binds K d_law_is ["_law_found", "_law_due"] []
  a_law_throws : Addr
  d_law_throws : FuncData
  g_law_throws : mg "_law_throws" = some (.ref a_law_throws)
  f_law_throws : Fun K "_law_throws" "_law_throws" st_law_throws a_law_throws d_law_throws
  b_law_throws : Binds K d_law_throws ["_law_dice"] []
  a_law_refused : Addr
  d_law_refused : FuncData
  g_law_refused : mg "_law_refused" = some (.ref a_law_refused)
  f_law_refused : Fun K "_law_refused" "_law_refused" st_law_refused a_law_refused d_law_refused
  b_law_refused : Binds K d_law_refused ["_law_way", "_law_dice", "_law_bound"] []
  a_law : Addr
  d_law : FuncData
  g_law : mg "law" = some (.ref a_law)
  f_law : Fun K "law" "law" st_law a_law d_law
  b_law : Binds K d_law ["_law_script"] []
/-! ### plain functions: draws, dice -/
def cellN (ns : List Int) (k : Int) : Int := if ns = [] then 0 else 31 * ns.sum + ns.getD (k % (ns.length : Int)).toNat 0
def drawN (ns : List Int) (k : Int) : Int :=
  (cellN ns k % 1000000007 + 7919 * k + 13) * (cellN ns k % 1000000007 + 7919 * k + 13) % 1000000007 * (cellN ns k % 1000000007 + 7919 * k + 13) % 998244353 / 11
theorem draw_range (ns : List Int) (k : Int) : 0 ≤ drawN ns k ∧ drawN ns k < 90749487 := by
  unfold drawN
  generalize (cellN ns k % 1000000007 + 7919 * k + 13) * (cellN ns k % 1000000007 + 7919 * k + 13) % 1000000007 * (cellN ns k % 1000000007 + 7919 * k + 13) = z
  omega
def faceN (ns : List Int) (k top num : Int) (found : List Int) (j : Int) : Int :=
  if found ≠ [] ∧ num / 16 % 4 = 1 ∧ drawN ns (k + 1 + j) % (top + 1) % 3 = 0 then found.getD 0 0 else drawN ns (k + 1 + j) % (top + 1)
def dieFold (ns : List Int) (k top num : Int) : Nat → List Int
  | 0 => []
  | m + 1 => dieFold ns k top num m ++ [faceN ns k top num (dieFold ns k top num m) m]
def dieL (ns : List Int) (k most top : Int) : List Int := dieFold ns k top (drawN ns k) (1 + drawN ns k % most).toNat
theorem dieFold_len (ns : List Int) (k top num : Int) : ∀ m, (dieFold ns k top num m).length = m
  | 0 => rfl
  | m + 1 => by
    rw [dieFold, List.length_append, dieFold_len ns k top num m]
    rfl
theorem getD_mem0 {l : List Int} (h : l ≠ []) : l.getD 0 0 ∈ l := by
  cases l with
  | nil => exact absurd rfl h
  | cons a r => exact List.mem_cons_self
theorem dieFold_mem (ns : List Int) {k top num : Int} (ht : 0 ≤ top) : ∀ m, ∀ f ∈ dieFold ns k top num m, 0 ≤ f ∧ f ≤ top
  | 0, f, h => by simp [dieFold] at h
  | m + 1, f, h => by
    rw [dieFold] at h
    have ih := dieFold_mem ns (k := k) (num := num) ht m
    have p : 0 ≤ drawN ns (k + 1 + m) % (top + 1) ∧ drawN ns (k + 1 + m) % (top + 1) ≤ top :=
      ⟨Int.emod_nonneg _ (by omega), by have := Int.emod_lt_of_pos (drawN ns (k + 1 + m)) (show 0 < top + 1 by omega); omega⟩
    rcases List.mem_append.mp h with q | q
    · exact ih f q
    · rw [List.mem_singleton.mp q, faceN]
      split
      · rename_i c
        exact ih _ (getD_mem0 c.1)
      · exact p
theorem dieL_len (ns : List Int) (k top : Int) {most : Int} (hm : 0 < most) : 1 ≤ (dieL ns k most top).length ∧ ((dieL ns k most top).length : Int) ≤ most := by
  have h1 := Int.emod_nonneg (drawN ns k) (show most ≠ 0 by omega)
  have h2 := Int.emod_lt_of_pos (drawN ns k) hm
  unfold dieL
  rw [dieFold_len]
  omega
theorem dieL_mem (ns : List Int) {k most top : Int} (ht : 0 ≤ top) : ∀ f ∈ dieL ns k most top, 0 ≤ f ∧ f ≤ top := dieFold_mem ns ht _
section
variable {P : Program} {w : World} {K : PySem.W.Frag} {mg : Str → Option Value} {base : Heap}
/-! ### numbers, faces, dice -/
def spNumber : Sp := fun vs H Q _ => ∃ v n, vs = [v] ∧ Kd H v n ∧ Q (.bl (isNum v)) H
theorem num_read {D : Ends} {σ : L2.St} {H : Hp} {v : V} {n : String} {Q : VK} (hk : Kd H v n) (q : Q (.bl (isNum v)) H) :
    ∃ c, V.bl (isIntB v) = .bl c ∧ if c = true then (∃ (x c : V) (t u : Value) (b : Bool), [v, .ty "bool"] = [x, c] ∧ ClsV c u ∧ TyX K H x t ∧ PySem.W.kitOne K t u = some b ∧ ∃ c, V.bl b = .bl c ∧ Q (.bl (!c)) H) else Q (.bl false) H := by
  refine ⟨_, rfl, ?_⟩
  cases hk with
  | int i => exact iteT ⟨_, _, _, _, _, rfl, .ty _, (Kd.int i).ty, kit_ty (Kd.int (H := H) i).kBool, _, rfl, q⟩
  | bl b => exact iteT ⟨_, _, _, _, _, rfl, .ty _, (Kd.bl b).ty, kit_ty (Kd.bl (H := H) b).kBool, _, rfl, q⟩
  | _ => exact iteF q
theorem ok_is_number (T : Lay K mg) : FnOk P w K mg base CX0 1 T.a_is_number T.d_is_number ["thing"] spNumber := by
  refine T.f_is_number.ok sc_is_number (fun vs H Q E h => ?_) (fun cdv A outer s H vs Q E hr h => ?_)
  · obtain ⟨v, n, rfl, _⟩ := h
    rfl
  · obtain ⟨v, n, rfl, hk, q⟩ := h
    refine ⟨_, (pss_one (ps_ret (pe_and (pe_callB call_isi (by rfl) T.n_isinstance (by decide +kernel) (pa_cons (pv 0) (pa_cons (pe_bltn (v := .ty "int") (by rfl) T.n_int (by decide +kernel) rfl) pa_nil))) (pe_one (pe_not (pe_callB call_isi (by rfl) T.n_isinstance (by decide +kernel) (pa_cons (pv 0) (pa_cons (pe_bltn (v := .ty "bool") (by rfl) T.n_bool (by decide +kernel) rfl) pa_nil)))))))), ?_⟩
    exact ⟨v, rfl, _, _, _, _, _, rfl, .ty _, hk.ty, kit_ty hk.kInt, by
      obtain ⟨c, e, h⟩ := num_read (K := K) (D := { nx := fun _ _ => True, rt := fun _ _ => True }) (σ := []) hk q
      refine ⟨c, e, ?_⟩
      cases c with
      | true => exact iteT ⟨v, rfl, (if_pos rfl).mp h⟩
      | false => exact iteF ((if_neg Bool.false_ne_true).mp h)⟩
def faceB : V → Bool
  | .int i => decide (0 ≤ i) && decide (i ≤ 99)
  | _ => false
def spFace : Sp := fun vs H Q _ => ∃ v n, vs = [v] ∧ Kd H v n ∧ Q (.bl (faceB v)) H
theorem ok_is_face (T : Lay K mg) : FnOk P w K mg base CX0 2 T.a_is_face T.d_is_face ["thing"] spFace := by
  refine T.f_is_face.ok sc_is_face (fun vs H Q E h => ?_) (fun cdv A outer s H vs Q E hr h => ?_)
  · obtain ⟨v, n, rfl, _⟩ := h
    rfl
  · obtain ⟨v, n, rfl, hk, q⟩ := h
    refine ⟨_, (pss_one (ps_ret (pe_and (pe_call (ok_is_number T) (hr.mono (by decide)) (by rfl) T.g_is_number T.f_is_number.kp T.b_is_number .nil pass0 (pa_cons (pv 0) pa_nil)) (pe_one (pe_chain op_le op_le pe_int (pv 0) (pe_glob (v := .int 99) rfl T.c_GREATEST_FACE ⟨_, rfl⟩)))))), ?_⟩
    refine ⟨v, rfl, v, n, rfl, hk, _, rfl, ?_⟩
    cases hk with
    | int i =>
      refine iteT ⟨.int i, rfl, 0, i, rfl, rfl, _, rfl, iteD (fun h0 => ?_) (fun h0 => ?_)⟩
      · refine ⟨i, 99, rfl, rfl, ?_⟩
        have e : faceB (.int i) = decide (i ≤ 99) := by simp [faceB, h0]
        rw [e] at q
        exact q
      · have e : faceB (.int i) = false := by simp [faceB, h0]
        rw [e] at q
        exact q
    | _ => exact iteF q
def dieB (xs : List V) : Bool := decide (1 ≤ xs.length) && decide (xs.length ≤ 8) && xs.all faceB
def dieV (H : Hp) (v : V) : Bool := match lstOf H v with
  | some xs => dieB xs
  | none => false
/-- what a thing may be that is asked: its kind is known, and the kinds of a list's items -/
structure Thing (H : Hp) (v : V) : Prop where
  kd : ∃ n, Kd H v n
  all : ∀ xs, lstOf H v = some xs → ∀ x ∈ xs, ∃ m, Kd H x m
def spIsDie : Sp := fun vs H Q _ => ∃ v, vs = [v] ∧ Thing H v ∧ ∀ H', Same H H' → Q (.bl (dieV H v)) H'
theorem all_map {xs : List V} {p : V → Bool} : (xs.map p).all id = xs.all p := by
  rw [List.all_map]
  rfl
theorem ok_is_die (T : Lay K mg) : FnOk P w K mg base CX0 3 T.a_is_die T.d_is_die ["thing"] spIsDie := by
  refine T.f_is_die.ok sc_is_die (fun vs H Q E h => ?_) (fun cdv A outer s H vs Q E hr h => ?_)
  · obtain ⟨v, rfl, _⟩ := h
    rfl
  · obtain ⟨v, rfl, ⟨⟨n, hk⟩, hall⟩, q⟩ := h
    refine ⟨_, (pss_cons (ps_if (PW.pt (pw_or (pt_not (pt_val (pe_callB call_isi (by rfl) T.n_isinstance (by decide +kernel) (pa_cons (pv 0) (pa_cons (pe_bltn (v := .ty "list") (by rfl) T.n_list (by decide +kernel) rfl) pa_nil))))) (pw_or1 (pt_not (pt_chain op_le op_le pe_int (pe_callB call_len_seq (by rfl) T.n_len PySem.boot_len (pa_cons (pv 0) pa_nil)) (pe_glob (v := .int 8) rfl T.c_MOST_FACES ⟨_, rfl⟩)))))) (pss_one (ps_ret pe_bl)) pss_nil)
    (pss_one (ps_ret (pe_callB (cr_all rfl) (by rfl) T.n_all (by decide +kernel) (pa_cons (pe_lc (own := [("face", 1)]) (g := (gName 1)) rfl sc_is_die.nd (pi_list (pv 0)) (blkOk_by (N := nm_is_die) (sc := defScope st_is_die) (by decide +kernel)) (fun _ _ _ _ _ => (pg_name (i := 1) sc_is_die.nd rfl (Or.inl rfl))) (fun _ _ _ _ _ => pts_nil) (fun _ _ _ _ _ => (pe_call (ok_is_face T) (hr.mono (by decide)) (by rfl) T.g_is_face T.f_is_face.kp T.b_is_face .nil pass0 (pa_cons (pv 1) pa_nil)))) pa_nil))))), ?_⟩
    cases hl : lstOf H v with
    | none =>
      have e : dieV H v = false := by unfold dieV; rw [hl]
      rw [e] at q
      exact ⟨v, rfl, v, _, _, _, _, rfl, .ty _, hk.ty, kit_ty (hk.kListN hl), _, rfl, iteT (iteT (q H (Same.refl H)))⟩
    | some xs =>
      have ed : dieV H v = dieB xs := by unfold dieV; rw [hl]
      rw [ed] at q
      obtain ⟨a, rfl, ha⟩ := lstOf_some hl
      refine ⟨.ref a, rfl, .ref a, _, _, _, _, rfl, .ty _, hk.ty, kit_ty (hk.kListS hl), _, rfl, iteF ?_⟩
      refine ⟨.ref a, rfl, a, xs, rfl, .inl (sq_of ha), 1, _, rfl, rfl, _, rfl, iteD (fun h1 => ?_) (fun h1 => ?_)⟩
      · refine ⟨_, 8, rfl, rfl, _, rfl, ?_⟩
        by_cases h2 : (xs.length : Int) ≤ 8
        · rw [decide_eq_true h2]
          refine iteF ?_
          -- all([is_face(face) for face in thing])
          refine ⟨.ref a, rfl, a, rfl, ⟨xs, sq_of ha⟩, fun D nD => ?_⟩
          refine lc_all (K := K) (fun x => .bl (faceB x)) nD (sq_of ha) (by omega) (fun x H' R hx e r N => ?_) (fun H' e hD => ?_)
          · obtain ⟨m, km⟩ := hall xs hl x hx
            exact ⟨rfl, iteT (B := N H') ⟨x, rfl, x, m, rfl, km.mono e, r H' (Same.refl H')⟩⟩
          · refine ⟨D, xs.map faceB, rfl, ?_, ?_⟩
            · rw [List.map_map]
              exact sq_of hD
            · have e2 : dieB xs = xs.all faceB := by
                have h3 : 1 ≤ xs.length := by omega
                have h4 : xs.length ≤ 8 := by omega
                simp [dieB, h3, h4]
              rw [e2] at q
              rw [all_map]
              exact q H' e
        · rw [decide_eq_false h2]
          have e2 : dieB xs = false := by
            have h4 : ¬ xs.length ≤ 8 := by omega
            simp [dieB, h4]
          rw [e2] at q
          exact iteT (q H (Same.refl H))
      · have e2 : dieB xs = false := by
          have h4 : ¬ 1 ≤ xs.length := by omega
          simp [dieB, h4]
        rw [e2] at q
        exact ⟨_, rfl, iteT (q H (Same.refl H))⟩
/-! ### dice -/
/-! ### things in a later heap -/
theorem lstOf_same {H H' : Hp} {v : V} {n : String} (k : Kd H v n) (e : Same H H') : lstOf H' v = lstOf H v := by
  have no : ∀ {a : Addr} {o : HO}, H a = some o → (∀ xs, o ≠ .lst xs) → lstOf H' (.ref a) = lstOf H (.ref a) := by
    intro a o h hn
    have h' := e _ _ h
    show (match H' a with
      | some (.lst xs) => some xs
      | _ => none) = (match H a with
      | some (.lst xs) => some xs
      | _ => none)
    rw [h, h']
  cases k with
  | lst h => rw [lstOf_ref h, lstOf_ref (e _ _ h)]
  | tup h => exact no h fun xs z => nomatch z
  | dct h => exact no h fun xs z => nomatch z
  | _ => rfl
theorem Thing.mono {H H' : Hp} {v : V} (e : Same H H') (t : Thing H v) : Thing H' v where
  kd := by
    obtain ⟨n, k⟩ := t.kd
    exact ⟨n, k.mono e⟩
  all := fun xs h x hx => by
    obtain ⟨n, k⟩ := t.kd
    rw [lstOf_same k e] at h
    obtain ⟨m, k2⟩ := t.all xs h x hx
    exact ⟨m, k2.mono e⟩
theorem dieV_same {H H' : Hp} {v : V} (e : Same H H') (t : Thing H v) : dieV H' v = dieV H v := by
  obtain ⟨n, k⟩ := t.kd
  unfold dieV
  rw [lstOf_same k e]
/-- a thing that is asked where dice are due -/
structure DThing (H : Hp) (v : V) : Prop where
  kd : ∃ n, Kd H v n
  all : ∀ xs, lstOf H v = some xs → ∀ x ∈ xs, Thing H x
def diceB (H : Hp) (m : Int) (xs : List V) : Bool := decide (1 ≤ (xs.length : Int)) && decide ((xs.length : Int) ≤ m) && xs.all (dieV H)
def diceV (H : Hp) (m : Int) (v : V) : Bool := match lstOf H v with
  | some xs => diceB H m xs
  | none => false
def spNeedDice (C : Addr) : Sp := fun vs H Q E => ∃ (v : V) (m : Int), vs = [v, .int m] ∧ (m = 4 ∨ m = 8) ∧ DThing H v ∧ (diceV H m v = true → ∀ H', Same H H' → Q .non H') ∧ (diceV H m v = false → ∀ H', Same H H' → E (.ref C) none H')
theorem ok_need_dice (T : Lay K mg) : FnOk P w K mg base (L2.CX P w) 4 T.a_need_dice T.d_need_dice ["thing", "most"] (spNeedDice T.a_BadDice) := by
  refine T.f_need_dice.okX sc_need_dice (fun vs H Q E h => ?_) (fun cdv A outer s H vs Q E hr h => ?_)
  · obtain ⟨v, m, rfl, _⟩ := h
    rfl
  · obtain ⟨v, m, rfl, hm, th, q1, q2⟩ := h
    refine ⟨_, (pss_cons (ps_if (PW.pt (pw_or (pt_not (pt_val (pe_callB call_isi (by rfl) T.n_isinstance (by decide +kernel) (pa_cons (pv 0) (pa_cons (pe_bltn (v := .ty "list") (by rfl) T.n_list (by decide +kernel) rfl) pa_nil))))) (pw_or1 (pt_not (pt_chain op_le op_le pe_int (pe_callB call_len_seq (by rfl) T.n_len PySem.boot_len (pa_cons (pv 0) pa_nil)) (pv 1)))))) (pss_one (ps_raise rfl (takes_of rfl rfl rfl rfl) (SkE.pmk_own1 PySem.F.excBase_ValueError T.x_BadDice.x T.g_BadDice T.x_BadDice.k (raises_own T.x_BadDice.b T.x_BadDice.t) rfl (pe_joined (PJ.cons pe_str (PJ.cons (pe_fmt (pv 1)) (PJ.cons pe_str PJ.nil))))))) pss_nil)
    (pss_one (ps_if (pt_not (pt_val (pe_callB (cr_all rfl) (by rfl) T.n_all (by decide +kernel) (pa_cons (pe_lc (own := [("die", 2)]) (g := (gName 2)) rfl sc_need_dice.nd (pi_list (pv 0)) (blkOk_by (N := nm_need_dice) (sc := defScope st_need_dice) (by decide +kernel)) (fun _ _ _ _ _ => (pg_name (i := 2) sc_need_dice.nd rfl (Or.inl rfl))) (fun _ _ _ _ _ => pts_nil) (fun _ _ _ _ _ => (pe_call (ok_is_die T) (hr.mono (by decide)) (by rfl) T.g_is_die T.f_is_die.kp T.b_is_die .nil pass0 (pa_cons (pv 2) pa_nil)))) pa_nil)))) (pss_one (ps_raise rfl (takes_of rfl rfl rfl rfl) (pmk_own PySem.F.excBase_ValueError T.x_BadDice.x T.g_BadDice T.x_BadDice.k (raises_own T.x_BadDice.b T.x_BadDice.t) rfl))) pss_nil))), ?_⟩
    -- the first refusal
    have bad : ∀ H1, Same H H1 → diceV H m v = false → ∀ (st : L2.St), st[1]? = some (some (.int m)) →
        tJs [tC (.str "dice are a list of 1 to "), tFmt (tVar 1), tC (.str " dice")] Str.empty st H1 (fun out H2 => E (.ref T.a_BadDice) none H2) := by
      intro H1 e1 hd st h1
      rcases hm with rfl | rfl
      · exact ⟨_, rfl, by decide +kernel, _, h1, .inr ⟨_, rfl, by decide +kernel, _, rfl, by decide +kernel, _, rfl, by decide +kernel, q2 hd H1 e1⟩⟩
      · exact ⟨_, rfl, by decide +kernel, _, h1, .inr ⟨_, rfl, by decide +kernel, _, rfl, by decide +kernel, _, rfl, by decide +kernel, q2 hd H1 e1⟩⟩
    obtain ⟨n, hk⟩ := th.kd
    cases hl : lstOf H v with
    | none =>
      have e : diceV H m v = false := by unfold diceV; rw [hl]
      exact ⟨v, rfl, v, _, _, _, _, rfl, .ty _, hk.ty, kit_ty (hk.kListN hl), _, rfl, iteT (iteT (bad H (Same.refl H) e _ rfl))⟩
    | some xs =>
      have ed : diceV H m v = diceB H m xs := by unfold diceV; rw [hl]
      obtain ⟨a, rfl, ha⟩ := lstOf_some hl
      refine ⟨.ref a, rfl, .ref a, _, _, _, _, rfl, .ty _, hk.ty, kit_ty (hk.kListS hl), _, rfl, iteF ?_⟩
      refine ⟨.ref a, rfl, a, xs, rfl, .inl (sq_of ha), 1, _, rfl, rfl, _, rfl, iteD (fun h1 => ?_) (fun h1 => ?_)⟩
      · refine ⟨_, rfl, _, m, rfl, rfl, _, rfl, ?_⟩
        by_cases h2 : (xs.length : Int) ≤ m
        · rw [decide_eq_true h2]
          refine iteF ?_
          -- not all([is_die(die) for die in thing])
          refine ⟨.ref a, rfl, a, rfl, ⟨xs, sq_of ha⟩, fun D nD => ?_⟩
          have hlen : xs.length < 1000000 := by rcases hm with rfl | rfl <;> omega
          refine lc_all (K := K) (fun x => .bl (dieV H x)) nD (sq_of ha) hlen (fun x H' R hx e r N => ?_) (fun H' e hD => ?_)
          · have tx := th.all xs hl x hx
            refine ⟨rfl, iteT (B := N H') ⟨x, rfl, x, rfl, tx.mono e, fun H4 e4 => ?_⟩⟩
            rw [dieV_same e tx]
            exact r H4 e4
          · refine ⟨D, xs.map (dieV H), rfl, ?_, ?_⟩
            · rw [List.map_map]
              exact sq_of hD
            · rw [all_map]
              have e2 : diceB H m xs = xs.all (dieV H) := by
                unfold diceB
                rw [decide_eq_true h1, decide_eq_true h2]
                rfl
              refine ⟨_, rfl, ?_⟩
              cases hx : xs.all (dieV H) with
              | true => exact iteF (q1 (by rw [ed, e2, hx]) H' e)
              | false => exact iteT (q2 (by rw [ed, e2, hx]) H' e)
        · rw [decide_eq_false h2]
          have e2 : diceV H m (.ref a) = false := by
            rw [ed]
            unfold diceB
            rw [decide_eq_false h2, Bool.and_false, Bool.false_and]
          exact iteT (bad H (Same.refl H) e2 _ rfl)
      · have e2 : diceV H m (.ref a) = false := by
          rw [ed]
          unfold diceB
          rw [decide_eq_false h1, Bool.false_and, Bool.false_and]
        exact ⟨_, rfl, iteT (bad H (Same.refl H) e2 _ rfl)⟩
/-! ### a draw -/
def spDraw (K : PySem.W.Frag) : Sp := fun vs H Q _ => ∃ (a : Addr) (ns : List Int) (k : Int), vs = [.ref a, .int k] ∧ SqL K H a (ns.map V.int) ∧ ns.length ≤ 1000 ∧ 0 ≤ k ∧ k ≤ 1000000 ∧ ∀ H', Same H H' → Q (.int (drawN ns k)) H'
theorem ok_law_draw (T : Lay K mg) : FnOk P w K mg base CX0 1 T.a_law_draw T.d_law_draw ["_law_script", "_law_k"] (spDraw K) := by
  refine T.f_law_draw.ok sc_law_draw (fun vs H Q E h => ?_) (fun cdv A outer s H vs Q E hr h => ?_)
  · obtain ⟨a, ns, k, rfl, _⟩ := h
    rfl
  · obtain ⟨a, ns, k, rfl, hS, hl, h0, h1, q⟩ := h
    refine ⟨_, (pss_cons (ps_set (i := 2) sc_law_draw.nd rfl (Or.inl rfl) pe_int)
    (pss_cons (ps_if (pt_cmpR (op_neP hr.units) (pv 0) (pe_lst pa_nil) (nomark _)) (pss_one (ps_set (i := 2) sc_law_draw.nd rfl (Or.inl rfl) (pe_op op_add (pe_op op_mul pe_int (pe_callB (cr_sum rfl) (by rfl) T.n_sum (by decide +kernel) (pa_cons (pv 0) pa_nil))) (pe_ix ix_list (pv 0) (pe_op op_mod (pv 1) (pe_callB call_len_seq (by rfl) T.n_len PySem.boot_len (pa_cons (pv 0) pa_nil))) (fun _ _ => rfl))))) pss_nil)
    (pss_cons (ps_set (i := 3) sc_law_draw.nd rfl (Or.inl rfl) (pe_op op_add (pe_op op_add (pe_op op_mod (pv 2) pe_int) (pe_op op_mul pe_int (pv 1))) pe_int))
    (pss_one (ps_ret (pe_op op_fdiv (pe_op op_mod (pe_op op_mul (pe_op op_mod (pe_op op_mul (pv 3) (pv 3)) pe_int) (pv 3)) pe_int) pe_int)))))), ?_⟩
    refine ⟨_, rfl, Nat.zero_le _, fun p np => ?_⟩
    have e1 : Same H (upd H p (.lst [])) := same_new np
    have hS1 := e1.seq hS
    -- the rest, from a cell
    have rest : ∀ c : Int, c = cellN ns k → tSeq (tAsg (tOp (rI0 fun i j => .int (i + j)) (tOp (rI0 fun i j => .int (i + j)) (tOp (rI (fun _ j => 0 < j) fun i j => .int (i % j)) (tVar 2) (tC (.int 1000000007))) (tOp (rI CMul fun i j => .int (i * j)) (tC (.int 7919)) (tVar 1))) (tC (.int 13))) (gName 3))
        (tRet (tOp (rI CDiv fun i j => .int (i / j)) (tOp (rI (fun _ j => 0 < j) fun i j => .int (i % j)) (tOp (rI CMul fun i j => .int (i * j)) (tOp (rI (fun _ j => 0 < j) fun i j => .int (i % j)) (tOp (rI CMul fun i j => .int (i * j)) (tVar 3) (tVar 3)) (tC (.int 1000000007))) (tVar 3)) (tC (.int 998244353))) (tC (.int 11))))
        { nx := fun _ H' => Q .non H', rt := Q } [some (.ref a), some (.int k), some (.int c), none] (upd H p (.lst [])) := by
      intro c hc
      have hm : 0 ≤ c % 1000000007 ∧ c % 1000000007 < 1000000007 := by omega
      have hb : -(2 ^ 64) < c % 1000000007 + 7919 * k + 13 ∧ c % 1000000007 + 7919 * k + 13 < 2 ^ 64 := by omega
      refine ⟨_, rfl, c, _, rfl, rfl, md rfl, _, rfl, _, _, rfl, rfl, .inl (by decide), _, _, rfl, rfl, _, _, rfl, rfl, ?_⟩
      refine ⟨_, rfl, _, rfl, _, _, rfl, rfl, .inl hb, _, _, rfl, rfl, md rfl, _, rfl, _, _, rfl, rfl, .inr hb, _, _, rfl, rfl, md rfl, _, _, rfl, rfl, dv rfl, ?_⟩
      have := q _ e1
      rw [hc]
      exact this
    refine ne_is (is_ints hS1) (is_list (α := Int) (sq_of upd_same) .nil) ⟨_, rfl, iteND (fun hn => ?_) (fun hn => ?_)⟩
    · have hpos : 0 < ns.length := by
        cases ns with
        | nil => exact absurd rfl hn
        | cons x r => exact Nat.succ_pos _
      have hi0 := Int.emod_nonneg k (show (ns.length : Int) ≠ 0 by omega)
      have hi1 := Int.emod_lt_of_pos k (show 0 < (ns.length : Int) by omega)
      have hi : (k % (ns.length : Int)).toNat < ns.length := by omega
      refine ⟨_, rfl, a, ns, rfl, hS1, _, _, rfl, rfl, .inl (by decide), ?_⟩
      refine ⟨_, rfl, _, rfl, _, rfl, a, _, rfl, .inl hS1, k, _, rfl, rfl, (by rw [List.length_map]; omega), ?_⟩
      refine ⟨a, _, _, .int (ns.getD (k % (ns.length : Int)).toNat 0), rfl, rfl, hS1, ?_, _, _, rfl, rfl, ?_⟩
      · refine at_of (j := (k % (ns.length : Int)).toNat) ?_ ?_
        · rw [List.length_map]
          omega
        · rw [List.getElem?_map, List.getElem?_eq_getElem hi, List.getD_eq_getElem?_getD, List.getElem?_eq_getElem hi]
          rfl
      · refine rest _ ?_
        rw [cellN, if_neg hn]
    · refine rest 0 ?_
      rw [cellN, if_pos hn]
/-! ### a drawn die -/
def spDie (K : PySem.W.Frag) : Sp := fun vs H Q _ => ∃ (a : Addr) (ns : List Int) (k most top : Int), vs = [.ref a, .int k, .int most, .int top] ∧ SqL K H a (ns.map V.int) ∧ ns.length ≤ 1000 ∧ 0 ≤ k ∧ k ≤ 900000 ∧ 0 < most ∧ most ≤ 1000 ∧ 0 ≤ top ∧ top ≤ 1000000 ∧
  ∀ H' p, Same H H' → H p = none → H' p = some (.lst ((dieL ns k most top).map V.int)) → Q (.ref p) H'
theorem ok_law_die (T : Lay K mg) : FnOk P w K mg base CX0 2 T.a_law_die T.d_law_die ["_law_script", "_law_k", "_law_most", "_law_top"] (spDie K) := by
  refine T.f_law_die.ok sc_law_die (fun vs H Q E h => ?_) (fun cdv A outer s H vs Q E hr h => ?_)
  · obtain ⟨a, ns, k, most, top, rfl, _⟩ := h
    rfl
  · obtain ⟨a, ns, k, most, top, rfl, hS, hl, h0, h1, m0, m1, t0, t1, q⟩ := h
    refine ⟨_, (pss_cons (ps_set (i := 4) sc_law_die.nd rfl (Or.inl rfl) (pe_call (ok_law_draw T) (hr.mono (by decide)) (by rfl) T.g_law_draw T.f_law_draw.kp T.b_law_draw .nil pass0 (pa_cons (pv 0) (pa_cons (pv 1) pa_nil))))
    (pss_cons (ps_set (i := 5) sc_law_die.nd rfl (Or.inl rfl) (pe_lst pa_nil))
    (pss_cons (ps_for PassesOwn.never rfl (pi_range1 (by rfl) T.n_range (pa_cons (pe_op op_add pe_int (pe_op op_mod (pv 4) (pv 2))) pa_nil)) (pg_name (i := 6) sc_law_die.nd rfl (Or.inl rfl)) (pss_cons (ps_set (i := 7) sc_law_die.nd rfl (Or.inl rfl) (pe_op op_mod (pe_call (ok_law_draw T) (hr.mono (by decide)) (by rfl) T.g_law_draw T.f_law_draw.kp T.b_law_draw .nil pass0 (pa_cons (pv 0) (pa_cons (pe_op op_add (pe_op op_add (pv 1) pe_int) (pv 6)) pa_nil))) (pe_op op_add (pv 3) pe_int)))
    (pss_cons (ps_if (PW.pt (pw_and (pt_cmpR (op_neP hr.units) (pv 5) (pe_lst pa_nil) (nomark _)) (pw_and (pt_cmpR op_eq (pe_op op_mod (pe_op op_fdiv (pv 4) pe_int) pe_int) pe_int (nomark _)) (pw_and1 (pt_cmpR op_eq (pe_op op_mod (pv 7) pe_int) pe_int (nomark _)))))) (pss_one (ps_set (i := 7) sc_law_die.nd rfl (Or.inl rfl) (pe_ix ix_list (pv 5) pe_int (fun _ _ => rfl)))) pss_nil)
    (pss_one (ps_expr (pe_bm PySem.F.plainAttrs_list PySem.F.slot_list_append PySem.F.type_list_append mt_append (pv 5) (pa_cons (pv 7) pa_nil)))))))
    (pss_one (ps_ret (pv 5)))))), ?_⟩
    refine ⟨_, rfl, _, rfl, a, ns, k, rfl, hS, hl, h0, by omega, fun H1 e1 => ?_⟩
    refine ⟨Nat.zero_le _, fun f nf => ?_⟩
    have nf0 := Same.free e1 nf
    have hr1 := Int.emod_nonneg (drawN ns k) (show most ≠ 0 by omega)
    have hr2 := Int.emod_lt_of_pos (drawN ns k) m0
    refine ⟨_, rfl, _, rfl, drawN ns k, most, rfl, rfl, m0, _, _, rfl, rfl, _, rfl, by omega, by omega, ?_⟩
    refine for_range (lo := 0) (n := (1 + drawN ns k % most).toNat)
      (fun i σ H' => ∃ y1 y2, σ = [some (.ref a), some (.int k), some (.int most), some (.int top), some (.int (drawN ns k)), some (.ref f), y1, y2] ∧ Same H H' ∧ H' f = some (.lst ((dieFold ns k top (drawN ns k) i).map V.int)))
      ⟨none, none, rfl, same_old e1 nf0, upd_same⟩ ?_ ?_
    · rintro i σ H2 hi ⟨y1, y2, rfl, e2, hf⟩
      refine ⟨_, rfl, _, rfl, k, 1, rfl, rfl, _, rfl, _, _, rfl, rfl, a, ns, k + 1 + (0 + (i : Int)), rfl, e2.seq hS, hl, by omega, by omega, fun H3 e3 => ?_⟩
      refine ⟨_, rfl, top, 1, rfl, rfl, _, _, rfl, rfl, by omega, ?_⟩
      have hz : (0 : Int) + (i : Int) = (i : Int) := by omega
      rw [hz]
      -- the end of a turn
      have e23 := e2.trans e3
      have turn : ∀ (z : Int) (H4 : Hp), z = faceN ns k top (drawN ns k) (dieFold ns k top (drawN ns k) i) i → Same H3 H4 → tDrop (tBM K "list" rAppend (tVar 5) (tCons (tVar 7) tNil))
          { nx := fun σ H' => ∃ y1 y2, σ = [some (.ref a), some (.int k), some (.int most), some (.int top), some (.int (drawN ns k)), some (.ref f), y1, y2] ∧ Same H H' ∧ H' f = some (.lst ((dieFold ns k top (drawN ns k) (i + 1)).map V.int)), rt := fun _ _ => False }
          [some (.ref a), some (.int k), some (.int most), some (.int top), some (.int (drawN ns k)), some (.ref f), some (.int (i : Int)), some (.int z)] H4 := by
        intro z H4 hz4 e4
        have hf4 := e4 _ _ (e3 _ _ hf)
        refine ⟨_, rfl, .inl ⟨rfl, _, sq_of hf4⟩, _, rfl, f, _, _, rfl, rfl, hf4, sz_lt (by rw [List.length_map, dieFold_len]; omega), _, _, rfl, same_old (e23.trans e4) nf0, ?_⟩
        rw [upd_same, dieFold, List.map_append, ← hz4]
        rfl
      have hfl3 := e3 _ _ hf
      refine ⟨_, rfl, Nat.zero_le _, fun p np => ?_⟩
      have e5 : Same H3 (upd H3 p (.lst [])) := same_new np
      refine ne_is (is_ints (sq_of (e5 _ _ hfl3))) (is_list (α := Int) (sq_of upd_same) .nil) ⟨_, rfl, iteND (fun hn => ?_) (fun hn => ?_)⟩
      · refine ⟨_, rfl, _, _, rfl, rfl, dv rfl, _, _, rfl, rfl, md rfl, rfl, _, rfl, iteD (fun c1 => ?_) (fun c1 => ?_)⟩
        · refine ⟨_, rfl, _, _, rfl, rfl, md rfl, rfl, _, rfl, ?_⟩
          by_cases c2 : drawN ns (k + 1 + (i : Int)) % (top + 1) % 3 = 0
          · have c2' : decide (V.int (drawN ns (k + 1 + (i : Int)) % (top + 1) % 3) = V.int 0) = true := decide_eq_true (congrArg V.int c2)
            rw [c2']
            refine iteT ⟨_, rfl, f, _, 0, .int ((dieFold ns k top (drawN ns k) i).getD 0 0), rfl, rfl, sq_of (e5 _ _ hfl3), ?_, ?_⟩
            · refine atI_nat (j := 0) ?_
              cases hfd : dieFold ns k top (drawN ns k) i with
              | nil => exact absurd hfd hn
              | cons x r => rfl
            · refine turn _ _ ?_ e5
              rw [faceN, if_pos ⟨hn, V.int.inj c1, c2⟩]
          · have c2' : decide (V.int (drawN ns (k + 1 + (i : Int)) % (top + 1) % 3) = V.int 0) = false := decide_eq_false fun z => c2 (V.int.inj z)
            rw [c2']
            refine iteF (turn _ _ ?_ e5)
            rw [faceN, if_neg fun c => c2 c.2.2]
        · refine iteF (turn _ _ ?_ e5)
          rw [faceN, if_neg fun c => c1 (congrArg V.int c.2.1)]
      · refine iteF (turn _ _ ?_ e5)
        rw [faceN, if_neg fun c => c.1 hn]
    · rintro σ H2 ⟨y1, y2, rfl, e2, hf⟩
      exact ⟨_, rfl, q H2 f e2 nf0 hf⟩
/-! ### whole numbers, shares as told, lowest terms -/
theorem ok_law_whole (T : Lay K mg) : FnOk P w K mg base CX0 1 T.a_law_whole T.d_law_whole ["_law_found"] spNumber := by
  refine T.f_law_whole.ok sc_law_whole (fun vs H Q E h => ?_) (fun cdv A outer s H vs Q E hr h => ?_)
  · obtain ⟨v, n, rfl, _⟩ := h
    rfl
  · obtain ⟨v, n, rfl, hk, q⟩ := h
    refine ⟨_, (pss_one (ps_ret (pe_and (pe_callB call_isi (by rfl) T.n_isinstance (by decide +kernel) (pa_cons (pv 0) (pa_cons (pe_bltn (v := .ty "int") (by rfl) T.n_int (by decide +kernel) rfl) pa_nil))) (pe_one (pe_not (pe_callB call_isi (by rfl) T.n_isinstance (by decide +kernel) (pa_cons (pv 0) (pa_cons (pe_bltn (v := .ty "bool") (by rfl) T.n_bool (by decide +kernel) rfl) pa_nil)))))))), ?_⟩
    exact ⟨v, rfl, _, _, _, _, _, rfl, .ty _, hk.ty, kit_ty hk.kInt, by
      obtain ⟨c, e, h⟩ := num_read (K := K) (D := { nx := fun _ _ => True, rt := fun _ _ => True }) (σ := []) hk q
      refine ⟨c, e, ?_⟩
      cases c with
      | true => exact iteT ⟨v, rfl, (if_pos rfl).mp h⟩
      | false => exact iteF ((if_neg Bool.false_ne_true).mp h)⟩
def spLawIs : Sp := fun vs H Q _ => ∃ (p r : Addr) (xs ys : List Int), vs = [.ref p, .ref r] ∧ H p = some (.tup (xs.map V.int)) ∧ H r = some (.tup (ys.map V.int)) ∧ xs.length ≤ 1000 ∧ ∀ H', Same H H' → Q (.bl (decide (xs = ys))) H'
theorem all_true {α : Type} : ∀ l : List α, (l.map fun _ => true).all id = true
  | [] => rfl
  | _ :: r => by rw [List.map_cons, List.all_cons, all_true r]; rfl
theorem ok_law_is (T : Lay K mg) : FnOk P w K mg base CX0 2 T.a_law_is T.d_law_is ["_law_found", "_law_due"] spLawIs := by
  refine T.f_law_is.ok sc_law_is (fun vs H Q E h => ?_) (fun cdv A outer s H vs Q E hr h => ?_)
  · obtain ⟨p, r, xs, ys, rfl, _⟩ := h
    rfl
  · obtain ⟨p, r, xs, ys, rfl, hp, hq, hl, q⟩ := h
    refine ⟨_, (pss_one (ps_ret (pe_and (pe_callB call_isi (by rfl) T.n_isinstance (by decide +kernel) (pa_cons (pv 0) (pa_cons (pe_bltn (v := .ty "tuple") (by rfl) T.n_tuple (by decide +kernel) rfl) pa_nil))) (pe_and (pe_cmpR (op_eqP hr.units) (pv 0) (pv 1) (nomark _)) (pe_one (pe_callB (cr_all rfl) (by rfl) T.n_all (by decide +kernel) (pa_cons (pe_lc (own := [("_law_part", 2)]) (g := (gName 2)) rfl sc_law_is.nd (pi_tup (pv 0)) (blkOk_by (N := nm_law_is) (sc := defScope st_law_is) (by decide +kernel)) (fun _ _ _ _ _ => (pg_name (i := 2) sc_law_is.nd rfl (Or.inl rfl))) (fun _ _ _ _ _ => pts_nil) (fun _ _ _ _ _ => (pe_call (ok_law_whole T) (hr.mono (by decide)) (by rfl) T.g_law_whole T.f_law_whole.kp T.b_law_whole .nil pass0 (pa_cons (pv 2) pa_nil)))) pa_nil))))))), ?_⟩
    refine ⟨_, rfl, _, _, _, _, _, rfl, .ty _, (Kd.tup hp).ty, kit_ty (by decide +kernel), _, rfl, iteT ?_⟩
    refine ⟨_, rfl, _, rfl, eq_is (is_tup (st_of hp) (.ints xs)) (is_tup (st_of hq) (.ints ys)) ⟨_, rfl, iteD (fun e => ?_) (fun e => ?_)⟩⟩
    · have e' : xs = ys := congrArg Tup.items e
      refine ⟨_, rfl, p, rfl, ⟨_, st_of hp⟩, fun D nD => ?_⟩
      refine lt_all (K := K) (fun _ => .bl true) nD hp (by rw [List.length_map]; omega) (fun x H' R hx e r N => ?_) (fun H' e1 hD => ?_)
      · obtain ⟨i, _, rfl⟩ := List.mem_map.mp hx
        exact ⟨rfl, iteT (B := N H') ⟨_, rfl, _, _, rfl, .int i, r H' (Same.refl H')⟩⟩
      · refine ⟨D, xs.map fun _ => true, rfl, ?_, ?_⟩
        · have e2 : (xs.map V.int).map (fun _ => V.bl true) = (xs.map fun _ => true).map V.bl := by
            rw [List.map_map, List.map_map]
            rfl
          rw [e2] at hD
          exact sq_of hD
        · rw [all_true]
          have := q H' e1
          rw [decide_eq_true e'] at this
          exact this
    · have := q H (Same.refl H)
      rw [decide_eq_false fun z => e (congrArg Tup.mk z)] at this
      exact this
/-! ### a die more -/
def spWays : Sp := fun vs H Q _ => ∃ (d p : Addr) (m : List (Int × Int)) (ds : List Int), vs = [.ref d, .ref p] ∧ H d = some (.dK (m.map entI)) ∧ H p = some (.lst (ds.map V.int)) ∧ m.length * ds.length ≤ 100000 ∧
  ∀ H' q, Same H H' → H q = none → H' q = some (.dK ((withW m ds).map entI)) → Q (.ref q) H'
theorem part_len (m : List (Int × Int)) (ds : List Int) (i j : Nat) (p : Int × Int) (h : m[i]? = some p) (hj : j < ds.length) : (inner p.1 p.2 (withW (m.take i) ds) (ds.take j)).length < m.length * ds.length := by
  have h1 := inner_len p.1 p.2 (ds.take j) (withW (m.take i) ds)
  have h2 := withW_len (m.take i) ds
  have h3 : i < m.length := (List.getElem?_eq_some_iff.mp h).1
  rw [List.length_take, Nat.min_eq_left (Nat.le_of_lt h3)] at h2
  rw [List.length_take, Nat.min_eq_left (Nat.le_of_lt hj)] at h1
  have h4 : (i + 1) * ds.length ≤ m.length * ds.length := Nat.mul_le_mul_right _ h3
  rw [Nat.succ_mul] at h4
  omega
theorem ok_ways_with (T : Lay K mg) : FnOk P w K mg base CX0 1 T.a_ways_with T.d_ways_with ["ways", "die"] spWays := by
  refine T.f_ways_with.ok sc_ways_with (fun vs H Q E h => ?_) (fun cdv A outer s H vs Q E hr h => ?_)
  · obtain ⟨d, p, m, ds, rfl, _⟩ := h
    rfl
  · obtain ⟨d, p, m, ds, rfl, hd, hp, hz, q⟩ := h
    refine ⟨_, (pss_cons (ps_set (i := 2) sc_ways_with.nd rfl (Or.inl rfl) pe_dnewK)
    (pss_cons (ps_lock (ps_for PassesOwn.never rfl (pi_items (pv 0)) (pg_tup rfl (pgs_cons (pg_name (i := 3) sc_ways_with.nd rfl (Or.inl rfl)) (pgs_cons (pg_name (i := 4) sc_ways_with.nd rfl (Or.inl rfl)) pgs_nil))) (pss_one (ps_for PassesOwn.never rfl (pi_list (pv 1)) (pg_name (i := 5) sc_ways_with.nd rfl (Or.inl rfl)) (pss_one (ps_dput (hu_of hr) (pv 2) (pe_op op_add (pv 3) (pv 5)) (pe_op op_add (pe_dget2 (hu_of hr) (pv 2) (pe_op op_add (pv 3) (pv 5)) pe_int ⟨by rfl, by rfl, by rfl, by rfl⟩) (pv 4)) rfl))))))
    (pss_one (ps_ret (pv 2))))), ?_⟩
    refine fun r nr => ?_
    have s1 : Same H (upd H r (.dK [])) := same_new nr
    have hd1 := s1 _ _ hd
    have hp1 := s1 _ _ hp
    have hr1 : (upd H r (.dK [])) r = some (.dK []) := upd_same
    have nrd : r ≠ d := fun z => by rw [z, hd] at nr; cases nr
    have nrp : r ≠ p := fun z => by rw [z, hp] at nr; cases nr
    have npd : p ≠ d := ne_of hp hd fun z => nomatch z
    generalize upd H r (.dK []) = H1 at *
    refine ⟨d, _, hd1, trivial, fun od => ?_⟩
    refine ⟨_, rfl, d, od, _, rfl, upd_same, ?_⟩
    -- what stands beside r
    let Keep : Hp → Prop := fun H' => ∀ b o, b ≠ r → (upd H1 d (.frz od (.dK (m.map entI)))) b = some o → H' b = some o
    have kd : ∀ {H'}, Keep H' → H' d = some (.frz od (.dK (m.map entI))) := fun k => k d _ nrd.symm upd_same
    have kp : ∀ {H'}, Keep H' → H' p = some (.lst (ds.map V.int)) := fun k => k p _ nrp.symm (by rw [upd_ne npd]; exact hp1)
    refine for_items (fun i σ H' => (∃ y1 y2 y3, σ = [some (.ref d), some (.ref p), some (.ref r), y1, y2, y3]) ∧ Keep H' ∧ H' r = some (.dK ((withW (m.take i) ds).map entI)))
      ⟨⟨none, none, none, rfl⟩, fun b o _ e => e, by rw [upd_ne nrd]; exact hr1⟩ (fun i σ H' ⟨_, k, _⟩ => kd k) ?_ ?_
    · rintro i k v σ H2 t hi ⟨⟨y1, y2, y3, rfl⟩, k2, hr2⟩ nt
      rw [List.getElem?_map] at hi
      cases hmi : m[i]? with
      | none => rw [hmi] at hi; cases hi
      | some pr =>
        rw [hmi] at hi
        cases hi
        have ntr : r ≠ t := ne_of_none hr2 nt
        have k3 : Keep (upd H2 t (.tup [kV (Sum.inl pr.1), .int pr.2])) := fun b o hb e => by
          have z := k2 b o hb e
          rw [upd_ne (ne_of_none z nt)]
          exact z
        have hr3 : (upd H2 t (.tup [kV (Sum.inl pr.1), .int pr.2])) r = some (.dK ((withW (m.take i) ds).map entI)) := by
          rw [upd_ne ntr]
          exact hr2
        refine ⟨t, _, rfl, st_of upd_same, rfl, _, _, rfl, _, _, rfl, rfl, ?_⟩
        generalize upd H2 t (.tup [kV (Sum.inl pr.1), .int pr.2]) = H3 at *
        -- for face in die
        refine ⟨_, rfl, p, rfl, ⟨_, sq_of (kp k3)⟩, for_list (K := K) (a := p) (xs := ds.map V.int)
          (fun j σ H' => (∃ y1, σ = [some (.ref d), some (.ref p), some (.ref r), some (.int pr.1), some (.int pr.2), y1]) ∧ Keep H' ∧ H' r = some (.dK ((inner pr.1 pr.2 (withW (m.take i) ds) (ds.take j)).map entI)))
          ⟨⟨_, rfl⟩, k3, hr3⟩ (fun j σ H' _ ⟨_, k, _⟩ => sq_of (kp k)) ?_ ?_⟩
        · rintro j y σ H4 hj ⟨⟨y1, rfl⟩, k4, hr4⟩
          rw [List.getElem?_map] at hj
          cases hdj : ds[j]? with
          | none => rw [hdj] at hj; cases hj
          | some f =>
            rw [hdj] at hj
            cases hj
            have hlt : j < ds.length := (List.getElem?_eq_some_iff.mp hdj).1
            refine ⟨_, rfl, r, rfl, .inl ⟨_, .inl hr4⟩, _, rfl, _, rfl, pr.1, f, rfl, rfl, _, DGet.k (k := Sum.inl (pr.1 + f)) hr4, _, rfl, lookI (inner pr.1 pr.2 (withW (m.take i) ds) (ds.take j)) (pr.1 + f), pr.2, valV_entI _ _, rfl, ?_⟩
            refine ⟨_, rfl, _, rfl, _, rfl, pr.1, f, rfl, rfl, r, _, rfl, DPut.k (k := Sum.inl (pr.1 + f)) hr4 (sz_lt ?_), ?_⟩
            · rw [List.length_map]
              have := part_len m ds i j pr hmi hlt
              omega
            · refine ⟨⟨_, rfl⟩, fun b o hb e => ?_, ?_⟩
              · rw [upd_ne hb]
                exact k4 b o hb e
              · rw [upd_same, putK_entI, take_snoc hdj, inner_snoc]
                rfl
        · rintro σ H4 ⟨⟨y1, rfl⟩, k4, hr4⟩
          rw [List.length_map, List.take_length] at hr4
          refine ⟨⟨_, _, _, rfl⟩, k4, ?_⟩
          rw [hr4, take_snoc hmi, withW_snoc]
    · rintro σ H2 ⟨⟨y1, y2, y3, rfl⟩, k2, hr2⟩
      rw [List.length_map, List.take_length] at hr2
      refine ⟨kd k2, _, rfl, q _ r ?_ nr ?_⟩
      · intro b o e
        have hb : b ≠ r := fun z => by rw [z, nr] at e; cases e
        by_cases hbd : b = d
        · subst hbd
          rw [hd] at e
          cases e
          exact upd_same
        · rw [upd_ne hbd]
          refine k2 b o hb ?_
          rw [upd_ne hbd]
          exact s1 b o e
      · rw [upd_ne nrd]
        exact hr2
/-! ### counts -/
/-! ### good dice -/
def good (ds : List Int) : Prop := 1 ≤ ds.length ∧ ds.length ≤ 8 ∧ ∀ f ∈ ds, 0 ≤ f ∧ f ≤ 99
theorem die_good {ds : List Int} (h : good ds) : dieB (ds.map V.int) = true := by
  have h3 : (ds.map V.int).all faceB = true := List.all_eq_true.mpr fun x hx => by
    obtain ⟨i, hi, rfl⟩ := List.mem_map.mp hx
    simp [faceB, h.2.2 i hi]
  simp [dieB, h.1, h.2.1, h3]
theorem kd_int_list {H : Hp} {ns : List Int} : ∀ x ∈ ns.map V.int, ∃ m, Kd H x m := fun x hx => by
  obtain ⟨i, _, rfl⟩ := List.mem_map.mp hx
  exact ⟨_, .int i⟩
theorem thing_die {H : Hp} {p : Addr} {ds : List Int} (h : H p = some (.lst (ds.map V.int))) : Thing H (.ref p) where
  kd := ⟨_, .lst h⟩
  all := fun xs e => by
    rw [lstOf_ref h] at e
    cases e
    exact kd_int_list
theorem dieV_die {H : Hp} {p : Addr} {ds : List Int} (h : H p = some (.lst (ds.map V.int))) : dieV H (.ref p) = dieB (ds.map V.int) := by
  unfold dieV
  rw [lstOf_ref h]
theorem paired_mem {α β : Type} {F : α → β → Prop} {xs : List α} {ys : List β} (h : Paired F xs ys) {x : α} (hx : x ∈ xs) : ∃ y ∈ ys, F x y := by
  obtain ⟨i, hi⟩ := List.mem_iff_getElem?.mp hx
  obtain ⟨y, hy, r⟩ := paired_at h hi
  exact ⟨y, List.mem_of_getElem? hy, r⟩
theorem dthing_dice {H : Hp} {a : Addr} {ps : List Addr} {dss : List (List Int)} (h : DiceAt H a ps dss) : DThing H (.ref a) where
  kd := ⟨_, .lst h.1⟩
  all := fun xs e x hx => by
    rw [lstOf_ref h.1] at e
    cases e
    obtain ⟨p, hp, rfl⟩ := List.mem_map.mp hx
    obtain ⟨ds, _, r⟩ := paired_mem h.2 hp
    exact thing_die r
theorem diceV_dice {H : Hp} {a : Addr} {ps : List Addr} {dss : List (List Int)} {m : Nat} (h : DiceAt H a ps dss) (h1 : 1 ≤ dss.length) (h2 : dss.length ≤ m) (hg : ∀ ds ∈ dss, good ds) : diceV H m (.ref a) = true := by
  have hl : ps.length = dss.length := paired_len h.2
  unfold diceV
  rw [lstOf_ref h.1]
  show diceB H m (ps.map V.ref) = true
  unfold diceB
  rw [List.length_map, decide_eq_true (by omega), decide_eq_true (by omega), Bool.true_and, Bool.true_and]
  refine List.all_eq_true.mpr fun x hx => ?_
  obtain ⟨p, hp, rfl⟩ := List.mem_map.mp hx
  obtain ⟨ds, hd, r⟩ := paired_mem h.2 hp
  rw [dieV_die r]
  exact die_good (hg ds hd)
theorem ways_len : ∀ (dss : List (List Int)), (∀ ds ∈ dss, ds.length ≤ 8) → ∀ w : List (Int × Int), (dss.foldl withW w).length ≤ w.length * 8 ^ dss.length
  | [], _, w => by simp
  | ds :: r, h, w => by
    have h1 := ways_len r (fun x hx => h x (List.mem_cons_of_mem _ hx)) (withW w ds)
    have h2 := withW_len w ds
    have h3 : w.length * ds.length ≤ w.length * 8 := Nat.mul_le_mul_left _ (h ds List.mem_cons_self)
    have h4 : (withW w ds).length * 8 ^ r.length ≤ (w.length * 8) * 8 ^ r.length := Nat.mul_le_mul_right _ (by omega)
    show (r.foldl withW (withW w ds)).length ≤ w.length * 8 ^ (r.length + 1)
    rw [Nat.pow_succ, Nat.mul_comm (8 ^ r.length) 8, ← Nat.mul_assoc]
    omega
theorem ways_le {dss : List (List Int)} (h : ∀ ds ∈ dss, ds.length ≤ 8) {i : Nat} (hi : i ≤ 3) : (waysL (dss.take i)).length ≤ 512 := by
  have h1 := ways_len (dss.take i) (fun x hx => h x (List.mem_of_mem_take hx)) [(0, 1)]
  have h2 : (8 : Nat) ^ (dss.take i).length ≤ 8 ^ 3 := Nat.pow_le_pow_right (by decide) (by rw [List.length_take]; omega)
  have h3 : (8 : Nat) ^ 3 = 512 := by decide
  have h4 : ([(0, 1)] : List (Int × Int)).length = 1 := rfl
  rw [h4] at h1
  unfold waysL
  omega
theorem ways_top {dss : List (List Int)} (h : ∀ ds ∈ dss, ds.length ≤ 8) (l : dss.length ≤ 4) : (waysL dss).length ≤ 4096 := by
  have h1 := ways_len dss h [(0, 1)]
  have h2 : (8 : Nat) ^ dss.length ≤ 8 ^ 4 := Nat.pow_le_pow_right (by decide) l
  have h3 : (8 : Nat) ^ 4 = 4096 := by decide
  have h4 : ([(0, 1)] : List (Int × Int)).length = 1 := rfl
  rw [h4] at h1
  unfold waysL
  omega
def spCounts (C : Addr) : Sp := fun vs H Q E => ∃ v, vs = [v] ∧ DThing H v ∧
  (∀ a ps dss, v = .ref a → DiceAt H a ps dss → 1 ≤ dss.length → dss.length ≤ 4 → (∀ ds ∈ dss, good ds) →
    ∀ H' p rows, Same H H' → H p = none → (∀ z ∈ rows, H z.1 = none) → p ∉ rows.map (·.1) → IsCounts (cntF dss) (rows.map (·.2)) → RowsAt H' p rows → rows.length ≤ 4096 → Q (.ref p) H') ∧
  (diceV H 4 v = true → ∃ a ps dss, v = .ref a ∧ DiceAt H a ps dss ∧ 1 ≤ dss.length ∧ dss.length ≤ 4 ∧ ∀ ds ∈ dss, good ds) ∧
  (diceV H 4 v = false → ∀ H', Same H H' → E (.ref C) none H')
theorem ok_counts (T : Lay K mg) : FnOk P w K mg base (L2.CX P w) 5 T.a_counts T.d_counts ["dice"] (spCounts T.a_BadDice) := by
  refine T.f_counts.okX sc_counts (fun vs H Q E h => ?_) (fun cdv A outer s H vs Q E hr h => ?_)
  · obtain ⟨v, rfl, _⟩ := h
    rfl
  · obtain ⟨v, rfl, th, q1, q0, q2⟩ := h
    have tk : Takes (cxOf (L2.CX P w) P w K mg base nm_counts "counts" (defScope st_counts) T.a_counts cdv A outer s H E) (fun cls d _ H => E cls d H) := takes_of rfl rfl rfl rfl
    refine ⟨_, (pss_cons (ps_expr (pe_call (ok_need_dice T) (hr.mono (by decide)) (by rfl) T.g_need_dice T.f_need_dice.kp T.b_need_dice .nil (passes_call tk fun _ _ _ _ h => h) (pa_cons (pv 0) (pa_cons (pe_glob (v := .int 4) rfl T.c_MOST_DICE ⟨_, rfl⟩) pa_nil))))
    (pss_cons (ps_set (i := 1) sc_counts.nd rfl (Or.inl rfl) (pe_disp (pps_cons pe_int pe_int pps_nil) (by rfl) (by rfl) (fun z => by cases z) (by decide)))
    (pss_cons (ps_for (passes_of rfl) rfl (pi_list (pv 0)) (pg_name (i := 2) sc_counts.nd rfl (Or.inl rfl)) (pss_one (ps_set (i := 1) sc_counts.nd rfl (Or.inl rfl) (pe_call (ok_ways_with T) (hr.mono (by decide)) (by rfl) T.g_ways_with T.f_ways_with.kp T.b_ways_with .nil pass0 (pa_cons (pv 1) (pa_cons (pv 2) pa_nil))))))
    (pss_one (ps_ret (pe_sortedItems rfl (pv 1) (by rfl) T.n_sorted (by decide +kernel))))))), ?_⟩
    refine ⟨_, rfl, v, 4, rfl, .inl rfl, th, fun hd H1 e1 => ?_, fun hd H1 e1 => q2 hd H1 e1⟩
    obtain ⟨a, ps, dss, rfl, hD, l1, l2, hg⟩ := q0 hd
    have hD1 := hD.mono e1
    have g8 : ∀ ds ∈ dss, ds.length ≤ 8 := fun ds h => (hg ds h).2.1
    -- ways = {0: 1}
    refine fun r nr => ⟨upd_same, [(Sum.inl 0, .int 1)], rfl, by decide, ?_⟩
    have e2 : Same H1 (upd (upd H1 r (.dK [])) r (.dK (mergeK [] [(Sum.inl 0, .int 1)]))) := same_old (same_new nr) nr
    have hr2 : (upd (upd H1 r (.dK [])) r (.dK (mergeK [] [(Sum.inl 0, .int 1)]))) r = some (.dK ((waysL []).map entI)) := upd_same
    generalize upd (upd H1 r (.dK [])) r (.dK (mergeK [] [(Sum.inl 0, .int 1)])) = H2 at *
    have hD2 := hD1.mono e2
    -- for die in dice
    have hl : ps.length = dss.length := paired_len hD.2
    refine ⟨_, rfl, a, rfl, ⟨_, sq_of hD2.1⟩, for_list (K := K) (a := a) (xs := ps.map V.ref)
      (fun i σ H' => (∃ q y, σ = [some (.ref a), some (.ref q), y] ∧ H' q = some (.dK ((waysL (dss.take i)).map entI))) ∧ Same H2 H')
      ⟨⟨r, none, rfl, hr2⟩, Same.refl _⟩ (fun i σ H' _ ⟨_, e⟩ => sq_of (e _ _ hD2.1)) ?_ ?_⟩
    · rintro i x σ H3 hi ⟨⟨q, y, rfl, hq⟩, e3⟩
      rw [List.getElem?_map] at hi
      cases hpi : ps[i]? with
      | none => rw [hpi] at hi; cases hi
      | some p =>
        rw [hpi] at hi
        cases hi
        obtain ⟨ds, hdi, hp⟩ := paired_at hD2.2 hpi
        have hil : i < dss.length := (List.getElem?_eq_some_iff.mp hdi).1
        have hw := ways_le g8 (i := i) (by omega)
        refine ⟨_, rfl, _, rfl, q, p, _, ds, rfl, hq, e3 _ _ hp, ?_, fun H4 q2 e4 nq2 hq2 => ⟨⟨q2, _, rfl, ?_⟩, e3.trans e4⟩⟩
        · have h8 := g8 ds (List.mem_of_getElem? hdi)
          have := Nat.mul_le_mul hw h8
          omega
        · rw [hq2, take_snoc hdi, waysL_snoc]
    · rintro σ H3 ⟨⟨q, y, rfl, hq⟩, e3⟩
      rw [List.length_map, hl, List.take_length] at hq
      have e13 := (e1.trans e2).trans e3
      refine ⟨_, rfl, q, _, rfl, hq, fun H4 p rows e4 np nrows nin hnd hperm hsort hp hrows => ?_⟩
      have T1 := tells_ways dss
      have nd2 : ((rows.map (·.2)).map (·.1)).Nodup := (hperm.map (·.1)).nodup_iff.mpr T1.nd
      exact q1 a ps dss rfl hD l1 l2 hg H4 p rows (e13.trans e4) (Same.free e13 np) (fun z hz => Same.free e13 (nrows z hz)) nin (counts_of_tells T1 hperm (rise_of_lex nd2 hsort)) ⟨hp, hrows⟩ (by
        have z := hperm.length_eq
        rw [List.length_map] at z
        have := ways_top g8 l2
        omega)
theorem die_is_good (ns : List Int) (k : Int) {tp : Int} (h0 : 0 ≤ tp) (h1 : tp ≤ 99) : good (dieL ns k 8 tp) := by
  obtain ⟨a, b⟩ := dieL_len ns k tp (most := 8) (by decide)
  exact ⟨a, by omega, fun f hf => by
    have := dieL_mem ns (k := k) (most := 8) h0 f hf
    exact ⟨this.1, Int.le_trans this.2 h1⟩⟩
theorem map_ref_inj {l m : List Addr} (h : l.map V.ref = m.map V.ref) : l = m := (List.map_inj_right (fun _ _ z => V.ref.inj z)).mp h
theorem map_int_inj {l m : List Int} (h : l.map V.int = m.map V.int) : l = m := (List.map_inj_right (fun _ _ z => V.int.inj z)).mp h
theorem dice_uniq {H : Hp} {a : Addr} {ps qs : List Addr} {cs ds : List (List Int)} (h : DiceAt H a ps cs) (g : DiceAt H a qs ds) : ps = qs ∧ cs = ds := by
  have e : ps = qs := map_ref_inj (HO.lst.inj (Option.some.inj (h.1.symm.trans g.1)))
  subst e
  exact ⟨rfl, paired_eq h.2 g.2 fun p c d h1 h2 => map_int_inj (HO.lst.inj (Option.some.inj (h1.symm.trans h2)))⟩
theorem isall_dice {K : PySem.W.Frag} {H : Hp} {ps : List Addr} {dss : List (List Int)} (h : Paired (fun p ds => H p = some (.lst (ds.map V.int))) ps dss) : IsAll K H (ps.map V.ref) dss := by
  induction h with
  | nil => exact .nil
  | cons r t ih => exact .cons (is_ints (sq_of r)) ih
theorem is_dice {K : PySem.W.Frag} {H : Hp} {a : Addr} {ps : List Addr} {dss : List (List Int)} (h : DiceAt H a ps dss) : Is K H (.ref a) dss := is_list (sq_of h.1) (isall_dice h.2)
theorem ext_of {α : Type} {l m : List α} (hl : l.length = m.length) (h : ∀ (i : Nat) c, l[i]? = some c → m[i]? = some c) : l = m := by
  apply List.ext_getElem?
  intro i
  cases e : l[i]? with
  | some c => rw [h i c e]
  | none =>
    have := List.getElem?_eq_none_iff.mp e
    rw [List.getElem?_eq_none (by omega)]
theorem cut_first (l : List V) : cutV l none (some 1) = l.take 1 := by
  unfold cutV
  rw [HT.sIx_none, show HT.sIx l.length l.length (some 1) = min 1 l.length from HT.sIx_nat _ _ 1]
  show (l.drop 0).take (min 1 l.length - 0) = l.take 1
  rw [List.drop_zero, Nat.sub_zero]
  cases l with
  | nil => rfl
  | cons x r => rw [List.length_cons, Nat.min_eq_left (by omega)]
theorem counts_call {C : Addr} {H : Hp} {a : Addr} {ps : List Addr} {dss : List (List Int)} {Q : VK} {E : XK} (hD : DiceAt H a ps dss) (l1 : 1 ≤ dss.length) (l2 : dss.length ≤ 4) (hg : ∀ ds ∈ dss, good ds)
    (k : ∀ H' p rows, Same H H' → H p = none → (∀ z ∈ rows, H z.1 = none) → p ∉ rows.map (·.1) → IsCounts (cntF dss) (rows.map (·.2)) → RowsAt H' p rows → rows.length ≤ 4096 → Q (.ref p) H') : spCounts C [.ref a] H Q E := by
  have hv := diceV_dice (m := 4) hD l1 (by omega) hg
  refine ⟨_, rfl, dthing_dice hD, fun a' ps' dss' ea hD' _ _ _ H' p rows e np fr nin ic ra hl => ?_, fun _ => ⟨a, ps, dss, rfl, hD, l1, l2, hg⟩, fun z => ?_⟩
  · cases ea
    obtain ⟨_, e2⟩ := dice_uniq hD hD'
    subst e2
    exact k H' p rows e np fr nin ic ra hl
  · have z2 : diceV H 4 (.ref a) = false := z
    have hv2 : diceV H 4 (.ref a) = true := hv
    rw [hv2] at z2
    cases z2
def gcdZ (n d : Int) : Int := (Nat.gcd n.natAbs d.natAbs : Nat)
def shareL (n d : Int) : List Int := [n / gcdZ n d, d / gcdZ n d]
def spShare : Sp := fun vs H Q _ => ∃ n d : Int, vs = [.int n, .int d] ∧ 0 < d ∧ d.natAbs < 2 ^ 8000 ∧ ∀ p, H p = none → Q (.ref p) (upd H p (.tup ((shareL n d).map V.int)))
theorem gcd_pos {n d : Int} (h : 0 < d) : 0 < gcdZ n d := by
  have : 0 < Nat.gcd n.natAbs d.natAbs := Nat.gcd_pos_of_pos_right _ (by omega)
  unfold gcdZ
  omega
theorem gcd_le {n d : Int} (h : 0 < d) : gcdZ n d ≤ d := by
  have : Nat.gcd n.natAbs d.natAbs ≤ d.natAbs := Nat.gcd_le_right _ (by omega)
  unfold gcdZ
  omega
theorem gcd_div {n d : Int} (h : 0 < d) (hb : d.natAbs < 2 ^ 8000) : CDivW x (gcdZ n d) := by
  have h1 := gcd_pos (n := n) h
  have h2 := gcd_le (n := n) h
  exact wide_div h1 (b := 8000) (Nat.lt_of_le_of_lt (by omega) hb) (by decide) (by decide)
theorem ok_share (T : Lay K mg) : FnOk P w K mg base CX0 1 T.a_share T.d_share ["n", "d"] spShare := by
  refine T.f_share.ok sc_share (fun vs H Q E h => ?_) (fun cdv A outer s H vs Q E hr h => ?_)
  · obtain ⟨n, d, rfl, _⟩ := h
    rfl
  · obtain ⟨n, d, rfl, h0, hb, q⟩ := h
    refine ⟨_, (pss_cons (ps_set (i := 2) sc_share.nd rfl (Or.inl rfl) (pe_callBfun cr_gcd rfl T.m_gcd (pa_cons (pv 0) (pa_cons (pv 1) pa_nil))))
    (pss_one (ps_ret (pe_tup (pa_cons (pe_op op_fdivW (pv 0) (pv 2)) (pa_cons (pe_op op_fdivW (pv 1) (pv 2)) pa_nil)))))), ?_⟩
    refine ⟨_, rfl, _, rfl, n, d, rfl, ?_⟩
    exact ⟨_, rfl, _, rfl, n, _, rfl, rfl, gcd_div h0 hb, _, rfl, _, rfl, d, _, rfl, rfl, gcd_div h0 hb, sz_ok (show 2 ≤ 1000000 by decide), q⟩
end
/-! ### shares, once more -/
theorem share_scale {b n d : Int} (hb : 0 < b) : shareL (b * n) (b * d) = shareL n d := by
  have e : gcdZ (b * n) (b * d) = b * gcdZ n d := by
    unfold gcdZ
    rw [Int.natAbs_mul, Int.natAbs_mul, Nat.gcd_mul_left, Int.natCast_mul, Int.natAbs_of_nonneg (Int.le_of_lt hb)]
  unfold shareL
  rw [e, Int.mul_ediv_mul_of_pos _ _ hb, Int.mul_ediv_mul_of_pos _ _ hb]
theorem small_len {n : Nat} (h : n ≤ 8) : ((n : Nat) : Int).natAbs < 2 ^ 8000 := Nat.lt_of_le_of_lt (show ((n : Nat) : Int).natAbs ≤ 8 by omega) (by decide +kernel)
theorem share_len (n d : Int) : (shareL n d).length ≤ 1000 := by
  show 2 ≤ 1000
  decide
theorem share_zero {d : Int} (hd : 0 < d) : shareL 0 d = [0, 1] := by
  have e : gcdZ 0 d = d := by
    unfold gcdZ
    rw [show (0 : Int).natAbs = 0 from rfl, Nat.gcd_zero_left]
    omega
  unfold shareL
  rw [e, Int.zero_ediv, Int.ediv_self (by omega)]
section
variable {P : Program} {w : World} {K : PySem.W.Frag} {mg : Str → Option Value} {base : Heap}
/-! ### the word of a refusal -/
/-- isinstance answers b of v and the class at C, wherever the heap has gone -/
def Ans (K : PySem.W.Frag) (H : Hp) (v c : V) (b : Bool) : Prop := ∀ (Q : VK) (H' : Hp), Same H H' → Q (.bl b) H' → rIsi K [v, c] H' Q ∨ rIsX K [v, c] H' Q
/-- what is known of an error (or of None) that _law_word is asked about -/
structure Err (T : Lay K mg) (H : Hp) (v : V) (c1 c2 c3 c4 c5 : Bool) : Prop where
  counts : Ans K H v (.ref T.a_BadCounts) c1
  dice : Ans K H v (.ref T.a_BadDice) c2
  die : Ans K H v (.ref T.a_BadDie) c3
  number : Ans K H v (.ref T.a_BadNumber) c4
  text : Ans K H v (.ref T.a_BadText) c5
  some_ : v ≠ .non → Ans K H v (.ref T.a_DiceError) true ∧ Ans K H v (.ty "ValueError") true
def wordsOf (c1 c2 c3 c4 c5 : Bool) : List Str :=
  (if c1 then [("counts" : Str)] else []) ++ ((if c2 then [("dice" : Str)] else []) ++ ((if c3 then [("die" : Str)] else []) ++ ((if c4 then [("number" : Str)] else []) ++ (if c5 then [("text" : Str)] else []))))
def spWord (T : Lay K mg) : Sp := fun vs H Q _ => ∃ v c1 c2 c3 c4 c5, vs = [v] ∧ Err T H v c1 c2 c3 c4 c5 ∧
  ∀ H' p, Same H H' → H p = none → H' p = some (.lst ((wordsOf c1 c2 c3 c4 c5).map V.str)) → Q (.ref p) H'
/-- a pair's two sides, read off the heap -/
def flagAt (H : Hp) : V → Bool
  | .ref t => (match H t with
    | some (.tup [_, .bl b]) => b
    | _ => false)
  | _ => false
def headAt (H : Hp) : V → V
  | .ref t => (match H t with
    | some (.tup [a, _]) => a
    | _ => .non)
  | _ => .non
theorem flag_at {H : Hp} {t : Addr} {a : V} {b : Bool} (h : H t = some (.tup [a, .bl b])) : flagAt H (.ref t) = b := by
  show (match H t with
    | some (.tup [_, .bl b]) => b
    | _ => false) = b
  rw [h]
theorem head_at {H : Hp} {t : Addr} {a c : V} (h : H t = some (.tup [a, c])) : headAt H (.ref t) = a := by
  show (match H t with
    | some (.tup [a, _]) => a
    | _ => .non) = a
  rw [h]
/-- [a for a, b in pairs if b] -/
theorem lc_flags {a : Addr} {xs : List V} {g : TG} {tt : TT} {te : TE} {vs : List Nat} {σ : L2.St} {H1 : Hp} {D : Addr} {Qd : Hp → Prop}
    (nD : H1 D = none) (hS : SqL K H1 a xs) (len : xs.length < 1000000)
    (hs : ∀ x H' (R : V → Hp → Prop) (N : Hp → Prop), x ∈ xs → Same H1 H' → (flagAt H1 x = true → ∀ H4, Same H' H4 → R (headAt H1 x) H4) → (flagAt H1 x = false → ∀ H4, Same H' H4 → N H4) →
      g x (wipe σ vs) H' fun σ2 H2 => wipe σ2 vs = wipe σ vs ∧ tt σ2 H2 fun b H3 => if b = true then te σ2 H3 R else N H3)
    (hd : ∀ H', Same H1 H' → H' D = some (.lst ((xs.filter (flagAt H1)).map (headAt H1))) → Qd H') :
    ∃ W : Nat → Nat → Hp → Prop, (∃ m, W 0 m (upd H1 D (.lst []))) ∧ ∀ i m H, W i m H →
      ((Itl K a).stop i H ∧ Qd H) ∨ ((Itl K a).go i H ∧ ∃ Nx : Hp → Prop, (∀ H', Nx H' → ∃ m', m' < m ∧ W (i + 1) m' H') ∧ ∀ x H', (Itl K a).yld i H x H' → g x (wipe σ vs) H' fun σ2 H2 => wipe σ2 vs = wipe σ vs ∧ tt σ2 H2 fun b H3 =>
        if b = true then te σ2 H3 fun y H4 => ∃ acc, H4 D = some (.lst acc) ∧ acc.length < sizeLine ∧ Nx (upd H4 D (.lst (acc ++ [y]))) else Nx H3) :=
  lc_map (flagAt H1) (headAt H1) nD hS len hs hd
theorem two_ok : 2 ≤ sizeLine := sz_ok (by decide)
theorem ok_law_word (T : Lay K mg) : FnOk P w K mg base CX0 1 T.a_law_word T.d_law_word ["_law_e"] (spWord T) := by
  refine T.f_law_word.ok sc_law_word (fun vs H Q E h => ?_) (fun cdv A outer s H vs Q E hr h => ?_)
  · obtain ⟨v, _, _, _, _, _, rfl, _⟩ := h
    rfl
  · obtain ⟨v, c1, c2, c3, c4, c5, rfl, R, q⟩ := h
    refine ⟨_, (pss_cons (ps_set (i := 1) sc_law_word.nd rfl (Or.inl rfl) (pe_lst (pa_cons (pe_tup (pa_cons pe_str (pa_cons (pe_callB call_isV (by rfl) T.n_isinstance (by decide +kernel) (pa_cons (pv 0) (pa_cons (pe_glob (v := .ref T.a_BadCounts) rfl T.g_BadCounts rfl) pa_nil))) pa_nil))) (pa_cons (pe_tup (pa_cons pe_str (pa_cons (pe_callB call_isV (by rfl) T.n_isinstance (by decide +kernel) (pa_cons (pv 0) (pa_cons (pe_glob (v := .ref T.a_BadDice) rfl T.g_BadDice rfl) pa_nil))) pa_nil))) (pa_cons (pe_tup (pa_cons pe_str (pa_cons (pe_callB call_isV (by rfl) T.n_isinstance (by decide +kernel) (pa_cons (pv 0) (pa_cons (pe_glob (v := .ref T.a_BadDie) rfl T.g_BadDie rfl) pa_nil))) pa_nil))) pa_nil)))))
    (pss_cons (ps_set (i := 1) sc_law_word.nd rfl (Or.inl rfl) (pe_op op_cat (pv 1) (pe_lst (pa_cons (pe_tup (pa_cons pe_str (pa_cons (pe_callB call_isV (by rfl) T.n_isinstance (by decide +kernel) (pa_cons (pv 0) (pa_cons (pe_glob (v := .ref T.a_BadNumber) rfl T.g_BadNumber rfl) pa_nil))) pa_nil))) (pa_cons (pe_tup (pa_cons pe_str (pa_cons (pe_callB call_isV (by rfl) T.n_isinstance (by decide +kernel) (pa_cons (pv 0) (pa_cons (pe_glob (v := .ref T.a_BadText) rfl T.g_BadText rfl) pa_nil))) pa_nil))) pa_nil)))))
    (pss_cons (ps_setLc (i := 2) (y := "_law_found") (hy := rfl) (hyl := rfl) (hsw := sw_true rfl rfl rfl (by decide +kernel)) (own := [("_law_word_here", 3), ("_law_is_so", 4)]) (g := (gTup K 2 (gCons (gName 3) (gCons (gName 4) gNil)))) (hc := rfl) (hN := sc_law_word.nd) (hi := (pi_list (pv 1))) (ok := (blkOk_by (N := nm_law_word) (sc := defScope st_law_word) (by decide +kernel))) (hg := (fun _ _ _ _ _ => (pg_tup rfl (pgs_cons (pg_name (i := 3) sc_law_word.nd rfl (Or.inl rfl)) (pgs_cons (pg_name (i := 4) sc_law_word.nd rfl (Or.inl rfl)) pgs_nil))))) (ht := (fun _ _ _ _ _ => (pts_one (pt_val (pv 4))))) (he := (fun _ _ _ _ _ => (pv 3))))
    (pss_one (ps_ret (pe_op op_cat (pv 2) (pe_op op_rep (pe_lst (pa_cons pe_str pa_nil)) (pe_callTy call_int1 (by rfl) T.n_int (by decide +kernel) (pa_cons (pe_and (pe_cmpR op_notN (pv 0) pe_non (nomark _)) (pe_one (pe_or (pe_not (pe_callB call_isV (by rfl) T.n_isinstance (by decide +kernel) (pa_cons (pv 0) (pa_cons (pe_glob (v := .ref T.a_DiceError) rfl T.g_DiceError rfl) pa_nil)))) (pe_one (pe_not (pe_callB call_isV (by rfl) T.n_isinstance (by decide +kernel) (pa_cons (pv 0) (pa_cons (pe_bltn (v := .ty "ValueError") (by rfl) T.n_ValueError (by decide +kernel) rfl) pa_nil)))))))) pa_nil))))))))), ?_⟩
    refine ⟨_, rfl, R.counts _ _ (Same.refl H) ⟨two_ok, fun t1 n1 => ?_⟩⟩
    have e1 : Same H (upd H t1 (.tup [.str "counts", .bl c1])) := same_new n1
    refine ⟨_, rfl, R.dice _ _ e1 ⟨two_ok, fun t2 n2 => ?_⟩⟩
    have s2 := same_new (o := .tup [.str "dice", .bl c2]) n2
    have e2 := e1.trans s2
    refine ⟨_, rfl, R.die _ _ e2 ⟨two_ok, fun t3 n3 => ?_⟩⟩
    have s3 := same_new (o := .tup [.str "die", .bl c3]) n3
    have e3 := e2.trans s3
    refine ⟨sz_ok (show 3 ≤ 1000000 by decide), fun l1 m1 => ?_⟩
    have s4 := same_new (o := .lst [.ref t1, .ref t2, .ref t3]) m1
    have e4 := e3.trans s4
    refine ⟨_, rfl, _, rfl, R.number _ _ e4 ⟨two_ok, fun t4 n4 => ?_⟩⟩
    have s5 := same_new (o := .tup [.str "number", .bl c4]) n4
    have e5 := e4.trans s5
    refine ⟨_, rfl, R.text _ _ e5 ⟨two_ok, fun t5 n5 => ?_⟩⟩
    have s6 := same_new (o := .tup [.str "text", .bl c5]) n5
    have e6 := e5.trans s6
    refine ⟨two_ok, fun l2 m2 => ?_⟩
    have s7 := same_new (o := .lst [.ref t4, .ref t5]) m2
    have e7 := e6.trans s7
    refine ⟨l1, l2, [.ref t1, .ref t2, .ref t3], [.ref t4, .ref t5], rfl, rfl, s7 _ _ (s6 _ _ (s5 _ _ upd_same)), upd_same, sz_ok (show 5 ≤ 1000000 by decide), fun l3 m3 => ?_⟩
    have s8 := same_new (o := .lst ([.ref t1, .ref t2, .ref t3] ++ [.ref t4, .ref t5])) m3
    have e8 := e7.trans s8
    -- the comprehension
    refine ⟨_, rfl, l3, rfl, ⟨_, sq_of upd_same⟩, fun D nD => ?_⟩
    have k1 := s8 _ _ (s7 _ _ (s6 _ _ (s5 _ _ (s4 _ _ (s3 _ _ (s2 _ _ (upd_same (H := H) (a := t1) (o := .tup [.str "counts", .bl c1]))))))))
    have k2 := s8 _ _ (s7 _ _ (s6 _ _ (s5 _ _ (s4 _ _ (s3 _ _ (upd_same (a := t2) (o := .tup [.str "dice", .bl c2])))))))
    have k3 := s8 _ _ (s7 _ _ (s6 _ _ (s5 _ _ (s4 _ _ (upd_same (a := t3) (o := .tup [.str "die", .bl c3]))))))
    have k4 := s8 _ _ (s7 _ _ (s6 _ _ (upd_same (a := t4) (o := .tup [.str "number", .bl c4]))))
    have k5 := s8 _ _ (s7 _ _ (upd_same (a := t5) (o := .tup [.str "text", .bl c5])))
    clear s8 s7 s6 s5 s4 s3 s2 e7 e6 e5 e4 e3 e2 e1
    have hD : ∀ H8 : Hp, H8 t1 = some (.tup [.str "counts", .bl c1]) → H8 t2 = some (.tup [.str "dice", .bl c2]) → H8 t3 = some (.tup [.str "die", .bl c3]) → H8 t4 = some (.tup [.str "number", .bl c4]) → H8 t5 = some (.tup [.str "text", .bl c5]) →
        (([.ref t1, .ref t2, .ref t3] ++ [.ref t4, .ref t5] : List V).filter (flagAt H8)).map (headAt H8) = (wordsOf c1 c2 c3 c4 c5).map V.str := by
      intro H8 k1 k2 k3 k4 k5
      have f1 := flag_at k1
      have f2 := flag_at k2
      have f3 := flag_at k3
      have f4 := flag_at k4
      have f5 := flag_at k5
      have g1 := head_at k1
      have g2 := head_at k2
      have g3 := head_at k3
      have g4 := head_at k4
      have g5 := head_at k5
      cases c1 <;> cases c2 <;> cases c3 <;> cases c4 <;> cases c5 <;> simp [List.filter_cons, f1, f2, f3, f4, f5, g1, g2, g3, g4, g5, wordsOf]
    have hP : ∀ H8 : Hp, H8 t1 = some (.tup [.str "counts", .bl c1]) → H8 t2 = some (.tup [.str "dice", .bl c2]) → H8 t3 = some (.tup [.str "die", .bl c3]) → H8 t4 = some (.tup [.str "number", .bl c4]) → H8 t5 = some (.tup [.str "text", .bl c5]) →
        ∀ x ∈ ([.ref t1, .ref t2, .ref t3] ++ [.ref t4, .ref t5] : List V), ∃ t a b, x = .ref t ∧ H8 t = some (.tup [a, .bl b]) := by
      intro H8 k1 k2 k3 k4 k5 x hx
      rcases List.mem_append.mp hx with hx | hx
      · rcases List.mem_cons.mp hx with rfl | hx
        · exact ⟨_, _, _, rfl, k1⟩
        · rcases List.mem_cons.mp hx with rfl | hx
          · exact ⟨_, _, _, rfl, k2⟩
          · rw [List.mem_singleton.mp hx]
            exact ⟨_, _, _, rfl, k3⟩
      · rcases List.mem_cons.mp hx with rfl | hx
        · exact ⟨_, _, _, rfl, k4⟩
        · rw [List.mem_singleton.mp hx]
          exact ⟨_, _, _, rfl, k5⟩
    refine lc_flags (K := K) nD (sq_of upd_same) (show 5 < 1000000 by decide) (fun x H' R N hx e r0 r1 => ?_) (fun H' e9 h9 => ?_)
    · obtain ⟨t, a, b, rfl, h8⟩ := hP _ k1 k2 k3 k4 k5 x hx
      have ht := e _ _ h8
      have hf := flag_at h8
      have hh := head_at h8
      refine ⟨t, [a, .bl b], rfl, st_of ht, rfl, a, [.bl b], rfl, .bl b, [], rfl, rfl, rfl, .bl b, rfl, b, rfl, ?_⟩
      rw [hf] at r0 r1
      rw [hh] at r0
      cases b with
      | true => exact iteT (B := N H') ⟨_, rfl, r0 rfl H' (Same.refl H')⟩
      | false => exact iteF (r1 rfl H' (Same.refl H'))
    · rw [hD _ k1 k2 k3 k4 k5] at h9
      have e10 := e8.trans e9
      -- _law_found + ['else'] * int(..)
      refine ⟨_, rfl, sz_ok (show 1 ≤ 1000000 by decide), fun p np => ?_⟩
      have s9 : Same H' (upd H' p (.lst [.str "else"])) := same_new np
      have e11 := e10.trans s9
      have fin : ∀ H'' : Hp, Same (upd H' p (.lst [.str "else"])) H'' → rRep (.ref p) (.int 0) H'' (fun y H2 => rCat (.ref D) y H2 fun v H3 => Q v H3) := by
        intro H'' s10
        refine ⟨p, 0, _, rfl, rfl, s10 _ _ upd_same, by decide, by decide, sz_ok (show 0 ≤ 1000000 by decide), fun r nr => ?_⟩
        refine ⟨D, r, (wordsOf c1 c2 c3 c4 c5).map V.str, _, rfl, rfl, ?_, upd_same, ?_, fun z nz => ?_⟩
        · rw [upd_ne (ne_of_none (s10 _ _ (s9 _ _ h9)) nr)]
          exact s10 _ _ (s9 _ _ h9)
        · show _ + 0 ≤ _
          rw [List.length_map]
          refine sz_ok ?_
          cases c1 <;> cases c2 <;> cases c3 <;> cases c4 <;> cases c5 <;> decide
        · have e12 := (e11.trans s10).trans (same_new (o := .lst (List.replicate (0 : Int).toNat [V.str "else"]).flatten) nr)
          have nz0 := Same.free e12 nz
          refine q _ z (same_old e12 nz0) nz0 ?_
          rw [upd_same]
          show some (HO.lst (_ ++ [])) = _
          rw [List.append_nil]
      by_cases hv : v = .non
      · refine ⟨v, rfl, rfl, _, rfl, ?_⟩
        rw [decide_eq_true hv]
        refine iteF (.inr ⟨false, rfl, fin _ (Same.refl _)⟩)
      · obtain ⟨a1, a2⟩ := R.some_ hv
        refine ⟨v, rfl, rfl, _, rfl, ?_⟩
        rw [decide_eq_false hv]
        refine iteT ⟨v, rfl, a1 _ _ e11 ⟨_, rfl, _, rfl, iteF ⟨v, rfl, a2 _ _ e11 ⟨_, rfl, .inr ⟨false, rfl, fin _ (Same.refl _)⟩⟩⟩⟩⟩
end
end My

namespace My
open PySem PySem.Spec PyProof.Rows L2
open PySem.W (Datum Tup)
section
variable {P : Program} {w : World} {K : PySem.W.Frag} {mg : Str → Option Value} {base : Heap}
/-! ### sums that are enough -/
def shareAt (dss : List (List Int)) (b : Int) : List Int := shareL ((((throwsL dss).filter fun s => decide (b ≤ s)).length : Nat) : Int) (((throwsL dss).length : Nat) : Int)
def boundB : V → Bool
  | .int z => decide (0 ≤ z)
  | _ => false
def GoodDice (H : Hp) (v : V) : Prop := ∃ a ps dss, v = .ref a ∧ DiceAt H a ps dss ∧ 1 ≤ dss.length ∧ dss.length ≤ 4 ∧ ∀ ds ∈ dss, good ds
def spAtLeast (C N : Addr) : Sp := fun vs H Q E => ∃ v b, vs = [v, b] ∧ DThing H v ∧ (∃ n, Kd H b n) ∧ (diceV H 4 v = true → GoodDice H v) ∧
  (diceV H 4 v = false → ∀ H', Same H H' → E (.ref C) none H') ∧
  (diceV H 4 v = true → boundB b = false → ∀ H', Same H H' → E (.ref N) none H') ∧
  (∀ a ps dss z, v = .ref a → DiceAt H a ps dss → diceV H 4 v = true → b = .int z → 0 ≤ z → ∀ H' p, Same H H' → H p = none → H' p = some (.tup ((shareAt dss z).map V.int)) → Q (.ref p) H')
theorem snd_int (m : List (Int × Int)) : m.map (fun p => V.int p.2) = (m.map (·.2)).map V.int := by
  rw [List.map_map]
  rfl
theorem ok_at_least (T : Lay K mg) : FnOk P w K mg base (L2.CX P w) 6 T.a_at_least T.d_at_least ["dice", "bound"] (spAtLeast T.a_BadDice T.a_BadNumber) := by
  refine T.f_at_least.okX sc_at_least (fun vs H Q E h => ?_) (fun cdv A outer s H vs Q E hr h => ?_)
  · obtain ⟨v, b, rfl, _⟩ := h
    rfl
  · obtain ⟨v, b, rfl, th, ⟨kb, hkb⟩, q0, q1, q2, q3⟩ := h
    have tk : Takes (cxOf (L2.CX P w) P w K mg base nm_at_least "at_least" (defScope st_at_least) T.a_at_least cdv A outer s H E) (fun cls d _ H => E cls d H) := takes_of rfl rfl rfl rfl
    refine ⟨_, (pss_cons (ps_set (i := 2) sc_at_least.nd rfl (Or.inl rfl) (pe_call (ok_counts T) (hr.mono (by decide)) (by rfl) T.g_counts T.f_counts.kp T.b_counts .nil (passes_call tk fun _ _ _ _ h => h) (pa_cons (pv 0) pa_nil)))
    (pss_cons (ps_if (PW.pt (pw_or (pt_not (pt_val (pe_call (ok_is_number T) (hr.mono (by decide)) (by rfl) T.g_is_number T.f_is_number.kp T.b_is_number .nil pass0 (pa_cons (pv 1) pa_nil)))) (pw_or1 (pt_cmpR op_lt (pv 1) pe_int (nomark _))))) (pss_one (ps_raise rfl (takes_of rfl rfl rfl rfl) (pmk_own PySem.F.excBase_ValueError T.x_BadNumber.x T.g_BadNumber T.x_BadNumber.k (raises_own T.x_BadNumber.b T.x_BadNumber.t) rfl))) pss_nil)
    (pss_cons (ps_set (i := 3) sc_at_least.nd rfl (Or.inl rfl) (pe_callB (cr_sum rfl) (by rfl) T.n_sum (by decide +kernel) (pa_cons (pe_lc (own := [("total", 5), ("many", 6)]) (g := (gTup K 2 (gCons (gName 5) (gCons (gName 6) gNil)))) rfl sc_at_least.nd (pi_list (pv 2)) (blkOk_by (N := nm_at_least) (sc := defScope st_at_least) (by decide +kernel)) (fun _ _ _ _ _ => (pg_tup rfl (pgs_cons (pg_name (i := 5) sc_at_least.nd rfl (Or.inl rfl)) (pgs_cons (pg_name (i := 6) sc_at_least.nd rfl (Or.inl rfl)) pgs_nil)))) (fun _ _ _ _ _ => (pts_one (pt_cmpR op_ge (pv 5) (pv 1) (nomark _)))) (fun _ _ _ _ _ => (pv 6))) pa_nil)))
    (pss_cons (ps_set (i := 4) sc_at_least.nd rfl (Or.inl rfl) (pe_callB (cr_sum rfl) (by rfl) T.n_sum (by decide +kernel) (pa_cons (pe_lc (own := [("row", 7)]) (g := (gName 7)) rfl sc_at_least.nd (pi_list (pv 2)) (blkOk_by (N := nm_at_least) (sc := defScope st_at_least) (by decide +kernel)) (fun _ _ _ _ _ => (pg_name (i := 7) sc_at_least.nd rfl (Or.inl rfl))) (fun _ _ _ _ _ => pts_nil) (fun _ _ _ _ _ => (pe_ix (r := rIxT K) ix_tup (pv 7) pe_int (fun _ _ => rfl)))) pa_nil)))
    (pss_one (ps_ret (pe_call (ok_share T) (hr.mono (by decide)) (by rfl) T.g_share T.f_share.kp T.b_share .nil pass0 (pa_cons (pv 3) (pa_cons (pv 4) pa_nil))))))))), ?_⟩
    have gd : ∀ a ps dss, v = .ref a → DiceAt H a ps dss → diceV H 4 v = true → 1 ≤ dss.length ∧ dss.length ≤ 4 ∧ ∀ ds ∈ dss, good ds := by
      intro a ps dss ev hD hv
      obtain ⟨a', ps', dss', ev', hD', l1, l2, hg⟩ := q0 hv
      rw [ev] at ev'
      cases ev'
      obtain ⟨_, e2⟩ := dice_uniq hD hD'
      subst e2
      exact ⟨l1, l2, hg⟩
    refine ⟨_, rfl, v, rfl, th, fun a ps dss ev hD l1 l2 hg H1 p rows e1 np fr nin ic ra hlr => ?_, q0, fun hv H1 e1 => q1 hv H1 e1⟩
    subst ev
    have hv : diceV H 4 (.ref a) = true := diceV_dice (m := 4) hD l1 l2 hg
    -- the bound
    refine ⟨_, rfl, b, kb, rfl, hkb.mono e1, _, rfl, ?_⟩
    have bad : boundB b = false → E (.ref T.a_BadNumber) none H1 := fun hb => q2 hv hb H1 e1
    cases hkb with
    | int z =>
      refine iteF ⟨_, rfl, z, 0, rfl, rfl, _, rfl, iteD (fun hz => ?_) (fun hz => ?_)⟩
      · exact bad (decide_eq_false (by omega))
      · have hz0 : 0 ≤ z := by omega
        -- enough
        refine ⟨_, rfl, p, rfl, ⟨_, sq_of ra.1⟩, fun D nD => ?_⟩
        refine lc_rows (K := K) (fun x => decide (z ≤ x.1)) (fun x => .int x.2) nD ra (by omega) (fun x H' R N hx e hx1 r0 r1 => ?_) (fun H2 e2 hD2 => ?_)
        · refine ⟨x.1, _, rfl, st_of hx1, rfl, _, _, rfl, _, _, rfl, rfl, rfl, _, rfl, _, rfl, x.2.1, z, rfl, rfl, _, rfl, iteD (fun c => ?_) (fun c => ?_)⟩
          · exact ⟨_, rfl, r0 (decide_eq_true c) H' (Same.refl H')⟩
          · exact r1 (decide_eq_false c) H' (Same.refl H')
        · rw [snd_int] at hD2
          refine ⟨D, _, rfl, sq_of hD2, ?_⟩
          -- thrown
          have ra2 := ra.mono e2
          refine ⟨_, rfl, p, rfl, ⟨_, sq_of ra2.1⟩, fun D3 nD3 => ?_⟩
          refine lc_rows (K := K) (fun _ => true) (fun x => .int x.2) nD3 ra2 (by omega) (fun x H' R N hx e hx1 r0 r1 => ?_) (fun H3 e3 hD3 => ?_)
          · exact ⟨rfl, iteT (B := N H') ⟨_, rfl, x.1, _, 1, .int x.2.2, rfl, rfl, st_of hx1, atI_nat (j := 1) rfl, r0 rfl H' (Same.refl H')⟩⟩
          · rw [snd_int, List.filter_eq_self.mpr (fun _ _ => rfl)] at hD3
            refine ⟨D3, _, rfl, sq_of hD3, ?_⟩
            rw [← cnt_throws] at ic
            have k1 := counts_kept (fun s => decide (z ≤ s)) ic
            have k2 := counts_all ic
            refine ⟨_, rfl, _, rfl, _, _, rfl, ?_, ?_, fun p4 np4 => ?_⟩
            · rw [k2]
              have := throws_pos dss [0] (fun ds h => (hg ds h).1) (Nat.le_refl 1)
              show (0 : Int) < (((throwsL dss).length : Nat) : Int)
              have h2 : 1 ≤ (throwsL dss).length := this
              omega
            · rw [k2]
              have := throws_top (fun ds h => (hg ds h).2.1) l2
              exact Nat.lt_of_le_of_lt (show (((throwsL dss).length : Nat) : Int).natAbs ≤ 4096 by omega) (by decide +kernel)
            · have e13 := (e1.trans e2).trans e3
              refine q3 a ps dss z rfl hD hv rfl hz0 _ p4 (e13.trans (same_new np4)) (Same.free e13 np4) ?_
              rw [upd_same, k2, k1]
              rfl
    | _ => exact iteT (bad rfl)
/-! ### the law's own shares and throws -/
theorem gcd_greatest {n d m : Int} {n0 : 0 < n} {d0 : 0 < d} (m0 : 0 < m) (h1 : n % m = 0) (h2 : d % m = 0) (top : ∀ y : Int, 1 ≤ y → y ≤ n → y ≤ d → n % y = 0 → d % y = 0 → y ≤ m) : m = gcdZ n d := by
  have hg := gcd_pos (n := n) d0
  have a1 : m ∣ n := Int.dvd_of_emod_eq_zero h1
  have a2 : m ∣ d := Int.dvd_of_emod_eq_zero h2
  have a3 : m.natAbs ∣ Nat.gcd n.natAbs d.natAbs := Nat.dvd_gcd (Int.natAbs_dvd_natAbs.mpr a1) (Int.natAbs_dvd_natAbs.mpr a2)
  have a4 : m.natAbs ≤ Nat.gcd n.natAbs d.natAbs := Nat.le_of_dvd (by unfold gcdZ at hg; omega) a3
  have b1 : gcdZ n d ∣ n := by
    unfold gcdZ
    exact Int.ofNat_dvd_left.mpr (Nat.gcd_dvd_left _ _)
  have b2 : gcdZ n d ∣ d := by
    unfold gcdZ
    exact Int.ofNat_dvd_left.mpr (Nat.gcd_dvd_right _ _)
  have b3 := top (gcdZ n d) (by omega) (Int.le_of_dvd n0 b1) (Int.le_of_dvd d0 b2) (Int.emod_eq_zero_of_dvd b1) (Int.emod_eq_zero_of_dvd b2)
  unfold gcdZ at b3 ⊢
  omega
def spLawShare : Sp := fun vs H Q _ => ∃ n d : Int, vs = [.int n, .int d] ∧ 0 ≤ n ∧ 0 < d ∧ n ≤ 100000 ∧ d ≤ 100000 ∧ ∀ H' p, Same H H' → H p = none → H' p = some (.tup ((shareL n d).map V.int)) → Q (.ref p) H'
theorem ok_law_share (T : Lay K mg) : FnOk P w K mg base CX0 1 T.a_law_share T.d_law_share ["_law_n", "_law_d"] spLawShare := by
  refine T.f_law_share.ok sc_law_share (fun vs H Q E h => ?_) (fun cdv A outer s H vs Q E hr h => ?_)
  · obtain ⟨n, d, rfl, _⟩ := h
    rfl
  · obtain ⟨n, d, rfl, n0, d0, n1, d1, q⟩ := h
    refine ⟨_, (pss_cons (ps_set (i := 2) sc_law_share.nd rfl (Or.inl rfl) (pe_tup (pa_cons pe_int (pa_cons pe_int pa_nil))))
    (pss_cons (ps_if (pt_cmpR op_gt (pv 0) pe_int (nomark _)) (pss_cons (ps_set (i := 3) sc_law_share.nd rfl (Or.inl rfl) (pe_callB (cr_max rfl) (by rfl) T.n_max (by decide +kernel) (pa_cons (pe_lc (own := [("_law_k", 4)]) (g := (gName 4)) rfl sc_law_share.nd (pi_range2 (by rfl) T.n_range (pa_cons pe_int (pa_cons (pe_op op_add (pe_callB (call_min2 rfl) (by rfl) T.n_min (by decide +kernel) (pa_cons (pv 0) (pa_cons (pv 1) pa_nil))) pe_int) pa_nil))) (blkOk_by (N := nm_law_share) (sc := defScope st_law_share) (by decide +kernel)) (fun _ _ _ _ _ => (pg_name (i := 4) sc_law_share.nd rfl (Or.inl rfl))) (fun _ _ _ _ _ => (pts_one (PW.pt (pw_and (pt_cmpR op_eq (pe_op op_mod (pv 0) (pv 4)) pe_int (nomark _)) (pw_and1 (pt_cmpR op_eq (pe_op op_mod (pv 1) (pv 4)) pe_int (nomark _))))))) (fun _ _ _ _ _ => (pv 4))) pa_nil)))
    (pss_one (ps_set (i := 2) sc_law_share.nd rfl (Or.inl rfl) (pe_tup (pa_cons (pe_op op_fdivW (pv 0) (pv 3)) (pa_cons (pe_op op_fdivW (pv 1) (pv 3)) pa_nil)))))) pss_nil)
    (pss_one (ps_ret (pv 2))))), ?_⟩
    refine ⟨two_ok, fun p np => ?_⟩
    have s1 := same_new (o := .tup [.int 0, .int 1]) np
    have hp1 := upd_same (H := H) (a := p) (o := .tup [.int 0, .int 1])
    generalize upd H p (.tup [.int 0, .int 1]) = H1 at *
    refine ⟨_, rfl, n, 0, rfl, rfl, _, rfl, iteD (fun c => ?_) (fun c => ?_)⟩
    · refine ⟨_, rfl, _, rfl, n, d, rfl, _, 1, rfl, rfl, 1, _, rfl, ⟨by decide, by decide, ?_, ?_⟩, fun D nD => ?_⟩
      · split <;> omega
      · split <;> omega
      · have hmin : ((if d < n then d else n) + 1 - 1).toNat = (if d < n then d else n).toNat := by congr 1; omega
        rw [hmin]
        have hmn : 0 < (if d < n then d else n) ∧ (if d < n then d else n) ≤ n ∧ (if d < n then d else n) ≤ d ∧ ∀ y, y ≤ n → y ≤ d → y ≤ (if d < n then d else n) := by
          split
          · exact ⟨by omega, by omega, by omega, fun y _ h => h⟩
          · exact ⟨by omega, by omega, by omega, fun y h _ => h⟩
        generalize (if d < n then d else n) = mn at *
        refine lr_map (fun z => decide (n % z = 0) && decide (d % z = 0)) V.int nD (by omega) (fun z H' R N z0 z1 e r0 r1 => ?_) (fun H2 e2 hD2 => ?_)
        · refine ⟨rfl, _, rfl, _, rfl, n, z, rfl, rfl, by omega, rfl, _, rfl, ?_⟩
          by_cases c1 : n % z = 0
          · rw [decide_eq_true (congrArg V.int c1)]
            refine iteT ⟨_, rfl, _, rfl, d, z, rfl, rfl, by omega, rfl, _, rfl, ?_⟩
            by_cases c2 : d % z = 0
            · rw [decide_eq_true (congrArg V.int c2)]
              exact iteT ⟨_, rfl, r0 (by rw [decide_eq_true c1, decide_eq_true c2]; rfl) H' (Same.refl H')⟩
            · rw [decide_eq_false fun z => c2 (V.int.inj z)]
              exact iteF (r1 (by rw [decide_eq_false c2, Bool.and_false]) H' (Same.refl H'))
          · rw [decide_eq_false fun z => c1 (V.int.inj z)]
            exact iteF (iteF (r1 (by rw [decide_eq_false c1, Bool.false_and]) H' (Same.refl H')))
        · have mem : ∀ y, y ∈ (rangeV 1 mn.toNat).filter (fun z => decide (n % z = 0) && decide (d % z = 0)) ↔ (1 ≤ y ∧ y ≤ mn) ∧ n % y = 0 ∧ d % y = 0 := by
            intro y
            rw [List.mem_filter, rangeV_mem, Bool.and_eq_true, decide_eq_true_eq, decide_eq_true_eq]
            have : y < 1 + ((mn.toNat : Nat) : Int) ↔ y ≤ mn := by omega
            rw [this]
          have one : (1 : Int) ∈ (rangeV 1 mn.toNat).filter (fun z => decide (n % z = 0) && decide (d % z = 0)) := (mem 1).mpr ⟨⟨by omega, by omega⟩, Int.emod_one n, Int.emod_one d⟩
          refine ⟨D, _, rfl, sq_of hD2, List.length_pos_of_mem one, fun m hm hle => ?_⟩
          have hm2 := (mem m).mp hm
          have eg : m = gcdZ n d := gcd_greatest (n0 := c) (d0 := d0) (by omega) hm2.2.1 hm2.2.2 fun y y1 yn yd h1 h2 => hle y ((mem y).mpr ⟨⟨y1, hmn.2.2.2 y yn yd⟩, h1, h2⟩)
          subst eg
          have hb : d.natAbs < 2 ^ 8000 := Nat.lt_of_le_of_lt (show d.natAbs ≤ 100000 by omega) (by decide +kernel)
          refine ⟨_, rfl, _, rfl, n, _, rfl, rfl, gcd_div d0 hb, _, rfl, _, rfl, d, _, rfl, rfl, gcd_div d0 hb, two_ok, fun p3 np3 => ⟨_, rfl, ?_⟩⟩
          have e12 := s1.trans e2
          exact q _ p3 (same_old e12 (Same.free e12 np3)) (Same.free e12 np3) upd_same
    · have n00 : n = 0 := by omega
      subst n00
      refine ⟨_, rfl, q H1 p s1 np ?_⟩
      rw [hp1, share_zero d0]
      rfl
/-! ### the law's own throws -/
def spThrows : Sp := fun vs H Q _ => ∃ a ps dss, vs = [.ref a] ∧ DiceAt H a ps dss ∧ dss.length ≤ 4 ∧ (∀ ds ∈ dss, ds.length ≤ 8) ∧
  ∀ H' p, Same H H' → H p = none → H' p = some (.lst ((throwsL dss).map V.int)) → Q (.ref p) H'
def plusV (f : Int) : V → V
  | .int t => .int (t + f)
  | _ => .non
theorem ok_law_throws (T : Lay K mg) : FnOk P w K mg base CX0 1 T.a_law_throws T.d_law_throws ["_law_dice"] spThrows := by
  refine T.f_law_throws.ok sc_law_throws (fun vs H Q E h => ?_) (fun cdv A outer s H vs Q E hr h => ?_)
  · obtain ⟨a, ps, dss, rfl, _⟩ := h
    rfl
  · obtain ⟨a, ps, dss, rfl, hD, l2, g8, q⟩ := h
    refine ⟨_, (pss_cons (ps_set (i := 1) sc_law_throws.nd rfl (Or.inl rfl) (pe_lst (pa_cons pe_int pa_nil)))
    (pss_cons (ps_for PassesOwn.never rfl (pi_list (pv 0)) (pg_name (i := 2) sc_law_throws.nd rfl (Or.inl rfl)) (pss_cons (ps_set (i := 3) sc_law_throws.nd rfl (Or.inl rfl) (pe_lst pa_nil))
    (pss_cons (ps_for PassesOwn.never rfl (pi_list (pv 2)) (pg_name (i := 4) sc_law_throws.nd rfl (Or.inr rfl)) (pss_one (ps_set (i := 3) sc_law_throws.nd rfl (Or.inl rfl) (pe_op op_cat (pv 3) (pe_lc (own := [("_law_total", 5)]) (g := (gName 5)) rfl sc_law_throws.nd (pi_list (pv 1)) (blkOk_by (N := nm_law_throws) (sc := defScope st_law_throws) (by decide +kernel)) (fun _ _ _ _ _ => (pg_name (i := 5) sc_law_throws.nd rfl (Or.inl rfl))) (fun _ _ _ _ _ => pts_nil) (fun _ _ _ _ _ => (pe_op op_add (pv 5) (pv 4))))))))
    (pss_one (ps_set (i := 1) sc_law_throws.nd rfl (Or.inl rfl) (pv 3))))))
    (pss_one (ps_ret (pv 1))))), ?_⟩
    refine ⟨sz_ok (show 1 ≤ 1000000 by decide), fun r nr => ?_⟩
    have s1 := same_new (o := .lst [.int 0]) nr
    have hr1 : (upd H r (.lst [.int 0])) r = some (.lst ((throwsL []).map V.int)) := upd_same
    generalize upd H r (.lst [.int 0]) = H1 at *
    have hD1 := hD.mono s1
    have hl : ps.length = dss.length := paired_len hD.2
    refine ⟨_, rfl, a, rfl, ⟨_, sq_of hD1.1⟩, for_list (K := K) (a := a) (xs := ps.map V.ref)
      (fun i σ H' => (∃ x y1 y2 y3 y4, σ = [some (.ref a), some (.ref x), y1, y2, y3, y4] ∧ H' x = some (.lst ((throwsL (dss.take i)).map V.int)) ∧ H x = none) ∧ Same H1 H')
      ⟨⟨r, none, none, none, none, rfl, hr1, nr⟩, Same.refl _⟩ (fun i σ H' _ ⟨_, e⟩ => sq_of (e _ _ hD1.1)) ?_ ?_⟩
    · rintro i x σ H2 hi ⟨⟨t, y1, y2, y3, y4, rfl, ht, nt⟩, e2⟩
      rw [List.getElem?_map] at hi
      cases hpi : ps[i]? with
      | none => rw [hpi] at hi; cases hi
      | some p =>
        rw [hpi] at hi
        cases hi
        obtain ⟨ds, hdi, hp⟩ := paired_at hD1.2 hpi
        have hil : i < dss.length := (List.getElem?_eq_some_iff.mp hdi).1
        have h8 := g8 ds (List.mem_of_getElem? hdi)
        have tl : (throwsL (dss.take i)).length ≤ 4096 := throws_top (fun d h => g8 d (List.mem_of_mem_take h)) (by rw [List.length_take]; omega)
        have hp2 := e2 _ _ hp
        generalize hT : throwsL (dss.take i) = T0 at *
        -- more = []
        refine ⟨Nat.zero_le _, fun u nu => ?_⟩
        have s3 := same_new (o := .lst []) nu
        have hu3 : (upd H2 u (.lst [])) u = some (.lst ((more1 T0 []).map V.int)) := upd_same
        have nu1 := Same.free e2 nu
        have ht3 := s3 _ _ ht
        have hp3 := s3 _ _ hp2
        generalize upd H2 u (.lst []) = H3 at *
        refine ⟨_, rfl, p, rfl, ⟨_, sq_of hp3⟩, for_list (K := K) (a := p) (xs := ds.map V.int)
          (fun j σ H' => (∃ m y3 y4, σ = [some (.ref a), some (.ref t), some (.ref p), some (.ref m), y3, y4] ∧ H' m = some (.lst ((more1 T0 (ds.take j)).map V.int)) ∧ H m = none) ∧ Same H3 H')
          ⟨⟨u, _, _, rfl, hu3, Same.free s1 nu1⟩, Same.refl _⟩ (fun j σ H' _ ⟨_, e⟩ => sq_of (e _ _ hp3)) ?_ ?_⟩
        · rintro j y σ H4 hj ⟨⟨m, y3, y4, rfl, hm, nm⟩, e4⟩
          rw [List.getElem?_map] at hj
          cases hdj : ds[j]? with
          | none => rw [hdj] at hj; cases hj
          | some f =>
            rw [hdj] at hj
            cases hj
            have hlt : j < ds.length := (List.getElem?_eq_some_iff.mp hdj).1
            have ml := more1_len T0 (ds.take j)
            have ml2 : (ds.take j).length * T0.length ≤ 8 * 4096 := Nat.mul_le_mul (by rw [List.length_take]; omega) tl
            have ht4 := e4 _ _ ht3
            refine ⟨_, rfl, _, rfl, t, rfl, ⟨_, sq_of ht4⟩, fun D nD => ?_⟩
            refine lc_all (K := K) (plusV f) nD (sq_of ht4) (by rw [List.length_map]; omega) (fun x H' R hx e r N => ?_) (fun H5 e5 hD5 => ?_)
            · obtain ⟨z, _, rfl⟩ := List.mem_map.mp hx
              exact ⟨rfl, iteT (B := N H') ⟨_, rfl, _, rfl, z, f, rfl, rfl, r H' (Same.refl H')⟩⟩
            · have hD6 : H5 D = some (.lst ((T0.map (· + f)).map V.int)) := by
                rw [hD5, List.map_map, List.map_map]
                rfl
              refine ⟨m, D, _, _, rfl, rfl, e5 _ _ hm, hD6, sz_ok (by rw [List.length_map, List.length_map, List.length_map]; omega), fun v nv => ⟨⟨v, _, _, rfl, ?_, ?_⟩, ?_⟩⟩
              · rw [upd_same, take_snoc hdj, more1_snoc, List.map_append]
              · exact Same.free (((s1.trans e2).trans s3).trans (e4.trans e5)) nv
              · exact (e4.trans e5).trans (same_new nv)
        · rintro σ H4 ⟨⟨m, y3, y4, rfl, hm, nm⟩, e4⟩
          rw [List.length_map, List.take_length] at hm
          refine ⟨_, rfl, ⟨m, _, _, _, _, rfl, ?_, nm⟩, (e2.trans s3).trans e4⟩
          rw [hm, take_snoc hdi, throwsL_snoc, hT]
    · rintro σ H2 ⟨⟨t, y1, y2, y3, y4, rfl, ht, nt⟩, e2⟩
      rw [List.length_map, hl, List.take_length] at ht
      exact ⟨_, rfl, q H2 t (s1.trans e2) nt ht⟩
end
end My

namespace My
open PySem PySem.Spec PyProof.Rows L2
open PySem.W (Datum Tup)
section
variable {P : Program} {w : World} {K : PySem.W.Frag} {mg : Str → Option Value} {base : Heap}
theorem err_non (T : Lay K mg) (H : Hp) : Err T H .non false false false false false where
  counts := fun Q H' _ q => .inl ⟨_, _, _, _, _, rfl, .own _, (Kd.non).ty, T.z_BadCounts, q⟩
  dice := fun Q H' _ q => .inl ⟨_, _, _, _, _, rfl, .own _, (Kd.non).ty, T.z_BadDice, q⟩
  die := fun Q H' _ q => .inl ⟨_, _, _, _, _, rfl, .own _, (Kd.non).ty, T.z_BadDie, q⟩
  number := fun Q H' _ q => .inl ⟨_, _, _, _, _, rfl, .own _, (Kd.non).ty, T.z_BadNumber, q⟩
  text := fun Q H' _ q => .inl ⟨_, _, _, _, _, rfl, .own _, (Kd.non).ty, T.z_BadText, q⟩
  some_ := fun h => absurd rfl h
theorem ans_own {C D : Addr} {b : Bool} {H : Hp} {a : Addr} (h : H a = some (ExV (.ref D) none a)) (x : ExFacts K D) (s : PySem.W.kitOne K (.ref D) (.ref C) = some b) : Ans K H (.ref a) (.ref C) b :=
  fun Q H' e q => .inr ⟨a, D, .ref C, .ref C, b, rfl, e _ _ h, x.c, fun _ r => r, s, q⟩
theorem err_dice (T : Lay K mg) {H : Hp} {a : Addr} (h : H a = some (ExV (.ref T.a_BadDice) none a)) : Err T H (.ref a) false true false false false where
  counts := ans_own h T.x_BadDice T.s_BadDice_BadCounts
  dice := ans_own h T.x_BadDice T.s_BadDice_BadDice
  die := ans_own h T.x_BadDice T.s_BadDice_BadDie
  number := ans_own h T.x_BadDice T.s_BadDice_BadNumber
  text := ans_own h T.x_BadDice T.s_BadDice_BadText
  some_ := fun _ => ⟨ans_own h T.x_BadDice T.s_BadDice_DiceError, fun Q H' e q => .inr ⟨a, _, _, _, true, rfl, e _ _ h, T.x_BadDice.c, fun _ r => r, T.v_BadDice, q⟩⟩
theorem caught_dice (T : Lay K mg) : PySem.W.exmOne K (.ref T.a_BadDice) (.ref T.a_DiceError) = some true :=
  PySem.W.exm_ref T.x_DiceError.b T.x_DiceError.c.hd T.x_DiceError.t T.e_BadDice_DiceError
theorem err_number (T : Lay K mg) {H : Hp} {a : Addr} (h : H a = some (ExV (.ref T.a_BadNumber) none a)) : Err T H (.ref a) false false false true false where
  counts := ans_own h T.x_BadNumber T.s_BadNumber_BadCounts
  dice := ans_own h T.x_BadNumber T.s_BadNumber_BadDice
  die := ans_own h T.x_BadNumber T.s_BadNumber_BadDie
  number := ans_own h T.x_BadNumber T.s_BadNumber_BadNumber
  text := ans_own h T.x_BadNumber T.s_BadNumber_BadText
  some_ := fun _ => ⟨ans_own h T.x_BadNumber T.s_BadNumber_DiceError, fun Q H' e q => .inr ⟨a, _, _, _, true, rfl, e _ _ h, T.x_BadNumber.c, fun _ r => r, T.v_BadNumber, q⟩⟩
theorem caught_number (T : Lay K mg) : PySem.W.exmOne K (.ref T.a_BadNumber) (.ref T.a_DiceError) = some true :=
  PySem.W.exm_ref T.x_DiceError.b T.x_DiceError.c.hd T.x_DiceError.t T.e_BadNumber_DiceError
/-! ### a refusal as the law asks it -/
def spRefused : Sp := fun vs H Q _ => ∃ (way : Int) (v b : V) (word : Str), vs = [.int way, v, b] ∧ DThing H v ∧ (∃ n, Kd H b n) ∧
  ((word = "dice" ∧ diceV H 4 v = false) ∨ (word = "number" ∧ way = 0 ∧ GoodDice H v ∧ boundB b = false)) ∧
  ∀ H' p, Same H H' → H p = none → H' p = some (.lst [.str word]) → Q (.ref p) H'
theorem good_dice {H : Hp} {v : V} (h : GoodDice H v) : diceV H 4 v = true := by
  obtain ⟨a, ps, dss, rfl, hD, l1, l2, hg⟩ := h
  exact diceV_dice (m := 4) hD l1 l2 hg
theorem ok_law_refused (T : Lay K mg) : FnOk P w K mg base CX0 7 T.a_law_refused T.d_law_refused ["_law_way", "_law_dice", "_law_bound"] spRefused := by
  refine T.f_law_refused.ok sc_law_refused (fun vs H Q E h => ?_) (fun cdv A outer s H vs Q E hr h => ?_)
  · obtain ⟨way, v, b, _, rfl, _⟩ := h
    rfl
  · obtain ⟨way, v, b, word, rfl, th, hb, hw, q⟩ := h
    refine ⟨_, (pss_cons (ps_set (i := 3) sc_law_refused.nd rfl (Or.inl rfl) pe_non)
    (pss_cons (ps_try_keep (i := 4) rfl rfl rfl sc_law_refused.nd rfl rfl ⟨rfl, by decide, .inl T.g_DiceError⟩ takes0
    (fun W pn xe tk _ => (pss_one (ps_if (pt_cmpR op_eq (pv 0) pe_int (nomark _)) (pss_one (ps_expr (pe_callS (ok_at_least T) (hr.mono (by decide)) (by rfl) T.g_at_least T.f_at_least.kp T.b_at_least (fun σ => passAt tk σ) (pa_cons (pv 1) (pa_cons (pv 2) pa_nil))))) (pss_one (ps_expr (pe_callS (ok_counts T) (hr.mono (by decide)) (by rfl) T.g_counts T.f_counts.kp T.b_counts (fun σ => passAt tk σ) (pa_cons (pv 1) pa_nil)))))))
    (fun a oe cls d pn hz hf => (pss_one (ps_set (i := 3) sc_law_refused.nd rfl (Or.inl rfl) (pv 4)))))
    (pss_one (ps_ret (pe_call (ok_law_word T) (hr.mono (by decide)) (by rfl) T.g_law_word T.f_law_word.kp T.b_law_word .nil pass0 (pa_cons (pv 3) pa_nil)))))), ?_⟩
    have caughtD : word = "dice" → ∀ (H1 : Hp) (a : Addr), Same H H1 → H1 a = none → spWord T [.ref a] (upd H1 a (ExV (.ref T.a_BadDice) none a)) Q E0 := by
      intro ew H1 a e na
      refine ⟨_, _, _, _, _, _, rfl, err_dice T upd_same, fun H' p e' np hp => ?_⟩
      have e2 := e.trans (same_new (o := ExV (.ref T.a_BadDice) none a) na)
      exact q H' p (e2.trans e') (Same.free e2 np) (by rw [ew]; exact hp)
    have caughtN : word = "number" → ∀ (H1 : Hp) (a : Addr), Same H H1 → H1 a = none → spWord T [.ref a] (upd H1 a (ExV (.ref T.a_BadNumber) none a)) Q E0 := by
      intro ew H1 a e na
      refine ⟨_, _, _, _, _, _, rfl, err_number T upd_same, fun H' p e' np hp => ?_⟩
      have e2 := e.trans (same_new (o := ExV (.ref T.a_BadNumber) none a) na)
      exact q H' p (e2.trans e') (Same.free e2 np) (by rw [ew]; exact hp)
    refine ⟨_, rfl, rfl, _, rfl, iteD (fun c => ?_) (fun c => ?_)⟩
    · -- at_least
      refine ⟨_, rfl, _, rfl, v, b, rfl, th, hb, fun hv => ?_, fun hv H1 e1 => ?_, fun hv hbb H1 e1 => ?_, fun a ps dss z ev hD hv eb hz H1 p e1 np hp => ?_⟩
      · rcases hw with ⟨_, h2⟩ | ⟨_, _, h2, _⟩
        · rw [h2] at hv; cases hv
        · exact h2
      · rcases hw with ⟨h1, _⟩ | ⟨_, _, h2, _⟩
        · exact ⟨true, caught_dice T, fun _ a na => ⟨_, rfl, _, rfl, caughtD h1 H1 a e1 na⟩, fun z => nomatch z⟩
        · rw [good_dice h2] at hv; cases hv
      · rcases hw with ⟨_, h2⟩ | ⟨h1, _, _, _⟩
        · rw [h2] at hv; cases hv
        · exact ⟨true, caught_number T, fun _ a na => ⟨_, rfl, _, rfl, caughtN h1 H1 a e1 na⟩, fun z => nomatch z⟩
      · rcases hw with ⟨_, h2⟩ | ⟨_, _, _, h2⟩
        · rw [h2] at hv; cases hv
        · rw [eb] at h2
          have h3 : decide (0 ≤ z) = false := h2
          exact absurd hz (of_decide_eq_false h3)
    · -- counts
      have h2 : word = "dice" ∧ diceV H 4 v = false := by
        rcases hw with h | ⟨_, h3, _⟩
        · exact h
        · exact absurd (congrArg V.int h3) c
      refine ⟨_, rfl, v, rfl, th, fun a ps dss ev hD l1 l2 hg => ?_, fun hv => ?_, fun hv H1 e1 => ⟨true, caught_dice T, fun _ a na => ⟨_, rfl, _, rfl, caughtD h2.1 H1 a e1 na⟩, fun z => nomatch z⟩⟩
      · have := diceV_dice (m := 4) hD l1 l2 hg
        rw [ev] at h2
        have h3 : diceV H 4 (.ref a) = true := this
        rw [h3] at h2
        cases h2.2
      · rw [h2.2] at hv
        cases hv
end
end My

namespace My
open PySem PySem.Spec PyProof.Rows L2
open PySem.W (Datum Tup)
theorem dieB_all {xs : List V} (h : dieB xs = true) : 1 ≤ xs.length ∧ xs.length ≤ 8 ∧ xs.all faceB = true := by
  simp only [dieB, Bool.and_eq_true, decide_eq_true_eq] at h
  exact ⟨h.1.1, h.1.2, h.2⟩
/-! ### things that are no dice -/
structure Bad (H : Hp) (v : V) : Prop where
  th : Thing H v
  no : dieV H v = false
theorem bad_non {H : Hp} {v : V} {n : String} (k : Kd H v n) (h : lstOf H v = none) : Bad H v where
  th := ⟨⟨n, k⟩, fun xs e => by rw [h] at e; cases e⟩
  no := by unfold dieV; rw [h]
theorem bad_list {H : Hp} {a : Addr} {xs : List V} (h : H a = some (.lst xs)) (all : ∀ x ∈ xs, ∃ m, Kd H x m) (bad : dieB xs = false) : Bad H (.ref a) where
  th := ⟨⟨_, .lst h⟩, fun ys e => by rw [lstOf_ref h] at e; cases e; exact all⟩
  no := by unfold dieV; rw [lstOf_ref h]; exact bad
theorem lstOf_tup {H : Hp} {a : Addr} {xs : List V} (h : H a = some (.tup xs)) : lstOf H (.ref a) = none := by
  cases e : lstOf H (.ref a) with
  | none => rfl
  | some ys =>
    obtain ⟨b, eb, hb⟩ := lstOf_some e
    cases eb
    rw [h] at hb
    cases hb
theorem lstOf_dct {H : Hp} {a : Addr} {xs : List (Key × V)} (h : H a = some (.dK xs)) : lstOf H (.ref a) = none := by
  cases e : lstOf H (.ref a) with
  | none => rfl
  | some ys =>
    obtain ⟨b, eb, hb⟩ := lstOf_some e
    cases eb
    rw [h] at hb
    cases hb
theorem dieB_not {xs : List V} (h : ¬ (1 ≤ xs.length ∧ xs.length ≤ 8 ∧ xs.all faceB = true)) : dieB xs = false := by
  cases e : dieB xs with
  | false => rfl
  | true => exact absurd (dieB_all e) h
theorem dieB_mem {xs : List V} {x : V} (hx : x ∈ xs) (h : faceB x = false) : dieB xs = false := dieB_not fun z => by
  have := List.all_eq_true.mp z.2.2 x hx
  rw [h] at this
  cases this
theorem dieB_ints {ns : List Int} (h1 : 1 ≤ ns.length) (h2 : ns.length ≤ 8) (h : ∀ f ∈ ns, 0 ≤ f ∧ f ≤ 99) : dieB (ns.map V.int) = true := by
  have h3 : (ns.map V.int).all faceB = true := List.all_eq_true.mpr fun x hx => by
    obtain ⟨i, hi, rfl⟩ := List.mem_map.mp hx
    simp [faceB, h i hi]
  simp [dieB, h1, h2, h3]
theorem cutV_mem {xs : List V} {lo hi : Option Int} {x : V} (h : x ∈ cutV xs lo hi) : x ∈ xs := List.mem_of_mem_drop (List.mem_of_mem_take h)
theorem rep_len {α : Type} (l : List α) : ∀ n, (List.replicate n l).flatten.length = n * l.length
  | 0 => by simp
  | n + 1 => by
    rw [List.replicate_succ, List.flatten_cons, List.length_append, rep_len l n, Nat.succ_mul]
    omega
theorem pick {P : V → Prop} {l : List V} {j : Nat} (hj : j < l.length) (h : ∀ x ∈ l, P x) : ∃ x, l[j]? = some x ∧ P x :=
  ⟨l[j], List.getElem?_eq_getElem hj, h _ (List.getElem_mem hj)⟩
theorem kd_ints {H : Hp} {ns : List Int} : ∀ x ∈ ns.map V.int, ∃ m, Kd H x m := fun x hx => by
  obtain ⟨i, _, rfl⟩ := List.mem_map.mp hx
  exact ⟨_, .int i⟩
/-! ### things that are no dice, or too many -/
theorem good_of (ns : List Int) (k : Int) {most tp : Int} (m0 : 0 < most) (m1 : most ≤ 8) (h0 : 0 ≤ tp) (h1 : tp ≤ 99) : good (dieL ns k most tp) := by
  obtain ⟨a, b⟩ := dieL_len ns k tp (most := most) m0
  exact ⟨a, by omega, fun f hf => by
    have := dieL_mem ns (k := k) (most := most) h0 f hf
    exact ⟨this.1, Int.le_trans this.2 h1⟩⟩
/-- a thing that is no dice, asked where dice are due -/
structure NoDice (H : Hp) (m : Int) (v : V) : Prop where
  th : DThing H v
  no : diceV H m v = false
theorem nodice_non {H : Hp} {m : Int} {v : V} {n : String} (k : Kd H v n) (h : lstOf H v = none) : NoDice H m v where
  th := ⟨⟨n, k⟩, fun xs e => by rw [h] at e; cases e⟩
  no := by unfold diceV; rw [h]
theorem nodice_list {H : Hp} {m : Int} {a : Addr} {xs : List V} (h : H a = some (.lst xs)) (all : ∀ x ∈ xs, Thing H x) (bad : (∃ x ∈ xs, dieV H x = false) ∨ xs = [] ∨ m < (xs.length : Int)) : NoDice H m (.ref a) where
  th := ⟨⟨_, .lst h⟩, fun ys e => by rw [lstOf_ref h] at e; cases e; exact all⟩
  no := by
    unfold diceV
    rw [lstOf_ref h]
    show diceB H m xs = false
    unfold diceB
    rcases bad with ⟨x, hx, e⟩ | e | e
    · have : xs.all (dieV H) = false := by
        cases z : xs.all (dieV H) with
        | false => rfl
        | true =>
          have := List.all_eq_true.mp z x hx
          rw [e] at this
          cases this
      rw [this, Bool.and_false]
    · subst e
      rfl
    · rw [decide_eq_false (by omega : ¬ (xs.length : Int) ≤ m), Bool.and_false, Bool.false_and]
theorem thing_non {H : Hp} {v : V} {n : String} (k : Kd H v n) (h : lstOf H v = none) : Thing H v := (bad_non k h).th
theorem thing_flat {H : Hp} {a : Addr} {xs : List V} (h : H a = some (.lst xs)) (all : ∀ x ∈ xs, ∃ n, Kd H x n) : Thing H (.ref a) where
  kd := ⟨_, .lst h⟩
  all := fun ys e => by rw [lstOf_ref h] at e; cases e; exact all
theorem Bad.mono {H H' : Hp} {v : V} (e : Same H H') (b : Bad H v) : Bad H' v where
  th := b.th.mono e
  no := by rw [dieV_same e b.th]; exact b.no
theorem NoDice.mono {H H' : Hp} {m : Int} {v : V} (e : Same H H') (b : NoDice H m v) : NoDice H' m v := by
  obtain ⟨⟨⟨n, k⟩, all⟩, no⟩ := b
  have el := lstOf_same k e
  refine ⟨⟨⟨n, k.mono e⟩, fun xs h x hx => ?_⟩, ?_⟩
  · rw [el] at h
    exact (all xs h x hx).mono e
  · unfold diceV at no ⊢
    rw [el]
    cases hl : lstOf H v with
    | none => rfl
    | some xs =>
      rw [hl] at no
      have no2 : diceB H m xs = false := no
      show diceB H' m xs = false
      unfold diceB at no2 ⊢
      have : xs.all (dieV H') = xs.all (dieV H) := by
        have key : ∀ l : List V, (∀ x ∈ l, Thing H x) → l.all (dieV H') = l.all (dieV H) := by
          intro l
          induction l with
          | nil => intro _; rfl
          | cons x r ih =>
            intro h
            rw [List.all_cons, List.all_cons, ih fun y hy => h y (List.mem_cons_of_mem _ hy), dieV_same e (h x List.mem_cons_self)]
        exact key xs (all xs hl)
      rw [this]
      exact no2
section
variable {P : Program} {w : World} {K : PySem.W.Frag} {mg : Str → Option Value} {base : Heap}
theorem share_one {n : Int} (h : 0 < n) : shareL n n = [1, 1] := by
  have := share_scale (b := n) (n := 1) (d := 1) h
  rw [Int.mul_one] at this
  rw [this]
  decide +kernel
theorem filter_ints (b : Int) (l : List Int) : ((l.map V.int).filter fun v => match v with | .int t => decide (b ≤ t) | _ => false) = (l.filter fun t => decide (b ≤ t)).map V.int := by
  rw [List.filter_map]
  rfl
theorem all_enough {l : List Int} (h : ∀ t ∈ l, 0 ≤ t) : (l.filter fun t => decide (0 ≤ t)) = l := List.filter_eq_self.mpr fun t ht => decide_eq_true (h t ht)
def spLaw (K : PySem.W.Frag) : Sp := fun vs H Q _ => ∃ (a : Addr) (ns : List Int), vs = [.ref a] ∧ SqL K H a (ns.map V.int) ∧ ns.length ≤ 63 ∧ ∀ H', Q (.bl true) H'
theorem ok_law (T : Lay K mg) : FnOk P w K mg base CX0 8 T.a_law T.d_law ["_law_script"] (spLaw K) := by
  refine T.f_law.ok sc_law (fun vs H Q E h => ?_) (fun cdv A outer s H vs Q E hr h => ?_)
  · obtain ⟨a, ns, rfl, _⟩ := h
    rfl
  · obtain ⟨a, ns, rfl, hS, hlen, q⟩ := h
    refine ⟨_, (pss_cons (ps_set (i := 1) sc_law.nd rfl (Or.inl rfl) (pe_call (ok_law_draw T) (hr.mono (by decide)) (by rfl) T.g_law_draw T.f_law_draw.kp T.b_law_draw .nil pass0 (pa_cons (pv 0) (pa_cons pe_int pa_nil))))
    (pss_cons (ps_asg (pe_tup (pa_cons (pe_ix ix_list (pe_lst (pa_cons pe_int (pa_cons pe_int (pa_cons pe_int (pa_cons pe_int pa_nil))))) (pe_op op_mod (pv 1) pe_int) (fun _ _ => rfl)) (pa_cons (pe_ix ix_list (pe_lst (pa_cons pe_int (pa_cons pe_int (pa_cons pe_int pa_nil)))) (pe_op op_mod (pe_op op_fdiv (pv 1) pe_int) pe_int) (fun _ _ => rfl)) pa_nil))) (pg_tup rfl (pgs_cons (pg_name (i := 2) sc_law.nd rfl (Or.inr rfl)) (pgs_cons (pg_name (i := 3) sc_law.nd rfl (Or.inr rfl)) pgs_nil))))
    (pss_cons (ps_setLc (i := 5) (y := "_law_dice") (hy := rfl) (hyl := rfl) (hsw := sw_true rfl rfl rfl (by decide +kernel)) (own := [("_law_k", 4)]) (g := (gName 4)) (hc := rfl) (hN := sc_law.nd) (hi := (pi_range1 (by rfl) T.n_range (pa_cons (pe_op op_add pe_int (pe_op op_mod (pv 1) pe_int)) pa_nil))) (ok := (blkOk_by (N := nm_law) (sc := defScope st_law) (by decide +kernel))) (hg := (fun _ _ _ _ _ => (pg_name (i := 4) sc_law.nd rfl (Or.inl rfl)))) (ht := (fun _ _ _ _ _ => pts_nil)) (he := (fun _ _ _ _ _ => (pe_call (ok_law_die T) (hr.mono (by decide)) (by rfl) T.g_law_die T.f_law_die.kp T.b_law_die .nil pass0 (pa_cons (pv 0) (pa_cons (pe_op op_add (pe_op op_mul pe_int (pv 4)) pe_int) (pa_cons (pv 2) (pa_cons (pv 3) pa_nil))))))))
    (pss_cons (ps_set (i := 6) sc_law.nd rfl (Or.inl rfl) (pe_call (ok_law_throws T) (hr.mono (by decide)) (by rfl) T.g_law_throws T.f_law_throws.kp T.b_law_throws .nil pass0 (pa_cons (pv 5) pa_nil)))
    (pss_cons (ps_setLc (i := 7) (y := "_law_kept") (hy := rfl) (hyl := rfl) (hsw := sw_true rfl rfl rfl (by decide +kernel)) (own := [("_law_die_here", 16)]) (g := (gName 16)) (hc := rfl) (hN := sc_law.nd) (hi := (pi_list (pv 5))) (ok := (blkOk_by (N := nm_law) (sc := defScope st_law) (by decide +kernel))) (hg := (fun _ _ _ _ _ => (pg_name (i := 16) sc_law.nd rfl (Or.inl rfl)))) (ht := (fun _ _ _ _ _ => pts_nil)) (he := (fun _ _ _ _ _ => (pe_callTy (T := "list") (r := rListOf K) call_listOf (by rfl) T.n_list (by decide +kernel) (pa_cons (pv 16) pa_nil)))))
    (pss_cons (ps_for PassesOwn.never rfl (pi_range1 (by rfl) T.n_range (pa_cons pe_int pa_nil)) (pg_name (i := 4) sc_law.nd rfl (Or.inl rfl)) (pss_cons (ps_set (i := 8) sc_law.nd rfl (Or.inl rfl) (pe_call (ok_law_draw T) (hr.mono (by decide)) (by rfl) T.g_law_draw T.f_law_draw.kp T.b_law_draw .nil pass0 (pa_cons (pv 0) (pa_cons (pe_op op_add pe_int (pv 4)) pa_nil))))
    (pss_cons (ps_set (i := 9) sc_law.nd rfl (Or.inl rfl) (pe_lst (pa_cons pe_int (pa_cons (pe_callB (cr_max rfl) (by rfl) T.n_max (by decide +kernel) (pa_cons (pv 6) pa_nil)) (pa_cons (pe_op op_add (pe_op op_add (pe_callB (cr_max rfl) (by rfl) T.n_max (by decide +kernel) (pa_cons (pv 6) pa_nil)) pe_int) (pv 8)) (pa_cons (pe_op op_mulW (pe_op op_pow pe_int pe_int) (pe_op op_pow pe_int pe_int)) (pa_cons (pe_op op_mod (pv 8) (pe_op op_add (pe_callB (cr_max rfl) (by rfl) T.n_max (by decide +kernel) (pa_cons (pv 6) pa_nil)) pe_int)) (pa_cons (pe_ix ix_list (pv 6) (pe_op op_mod (pv 8) (pe_callB call_len_seq (by rfl) T.n_len PySem.boot_len (pa_cons (pv 6) pa_nil))) (fun _ _ => rfl)) pa_nil))))))))
    (pss_cons (ps_set (i := 10) sc_law.nd rfl (Or.inr rfl) (pe_ix ix_list (pv 9) (pe_op op_mod (pe_op op_fdiv (pv 8) pe_int) pe_int) (fun _ _ => rfl)))
    (pss_cons (ps_set (i := 11) sc_law.nd rfl (Or.inl rfl) (pe_call (ok_law_share T) (hr.mono (by decide)) (by rfl) T.g_law_share T.f_law_share.kp T.b_law_share .nil pass0 (pa_cons (pe_callB call_len_seq (by rfl) T.n_len PySem.boot_len (pa_cons (pe_lc (own := [("_law_total", 17)]) (g := (gName 17)) rfl sc_law.nd (pi_list (pv 6)) (blkOk_by (N := nm_law) (sc := defScope st_law) (by decide +kernel)) (fun _ _ _ _ _ => (pg_name (i := 17) sc_law.nd rfl (Or.inl rfl))) (fun _ _ _ _ _ => (pts_one (pt_cmpR op_ge (pv 17) (pv 10) (nomark _)))) (fun _ _ _ _ _ => (pv 17))) pa_nil)) (pa_cons (pe_callB call_len_seq (by rfl) T.n_len PySem.boot_len (pa_cons (pv 6) pa_nil)) pa_nil))))
    (pss_one (ps_if (pt_not (pt_val (pe_call (ok_law_is T) (hr.mono (by decide)) (by rfl) T.g_law_is T.f_law_is.kp T.b_law_is .nil pass0 (pa_cons (pe_call (ok_at_least T) (hr.mono (by decide)) (by rfl) T.g_at_least T.f_at_least.kp T.b_at_least .nil passL (pa_cons (pv 5) (pa_cons (pv 10) pa_nil))) (pa_cons (pv 11) pa_nil))))) (pss_one (ps_ret pe_bl)) pss_nil)))))))
    (pss_cons (ps_set (i := 8) sc_law.nd rfl (Or.inl rfl) (pe_call (ok_law_draw T) (hr.mono (by decide)) (by rfl) T.g_law_draw T.f_law_draw.kp T.b_law_draw .nil pass0 (pa_cons (pv 0) (pa_cons pe_int pa_nil))))
    (pss_cons (ps_set (i := 12) sc_law.nd rfl (Or.inl rfl) (pe_ix ix_list (pe_lst (pa_cons (pe_un un_neg pe_int) (pa_cons pe_int (pa_cons pe_bl (pa_cons pe_non (pa_cons pe_str (pa_cons (pe_lst (pa_cons pe_int pa_nil)) (pa_cons (pe_op op_pow pe_int pe_int) pa_nil)))))))) (pe_op op_mod (pv 8) pe_int) (fun _ _ => rfl)))
    (pss_cons (ps_set (i := 13) sc_law.nd rfl (Or.inl rfl) (pe_ix ix_list (pe_lst (pa_cons (pe_lst (pa_cons (pv 12) pa_nil)) (pa_cons (pe_lst pa_nil) (pa_cons (pe_tup (pa_cons pe_int (pa_cons pe_int pa_nil))) (pa_cons pe_non (pa_cons pe_str (pa_cons (pe_op op_rep (pe_lst (pa_cons pe_int pa_nil)) pe_int) (pa_cons pe_int (pa_cons pe_dnewK pa_nil))))))))) (pe_op op_mod (pe_op op_fdiv (pv 8) pe_int) pe_int) (fun _ _ => rfl)))
    (pss_cons (ps_set (i := 9) sc_law.nd rfl (Or.inl rfl) (pe_lst (pa_cons (pe_op op_cat (pe_slice sl_list (pv 5) po_none (po_some pe_int)) (pe_lst (pa_cons (pv 13) pa_nil))) (pa_cons (pe_op op_cat (pe_lst (pa_cons (pv 13) pa_nil)) (pe_slice sl_list (pv 5) po_none (po_some pe_int))) (pa_cons pe_non (pa_cons (pe_lst pa_nil) (pa_cons (pe_callTy call_tuple_of (by rfl) T.n_tuple (by decide +kernel) (pa_cons (pv 5) pa_nil)) (pa_cons (pe_op op_rep (pe_lst (pa_cons (pe_ix ix_list (pv 5) pe_int (fun _ _ => rfl)) pa_nil)) pe_int) (pa_cons (pe_ix ix_list (pv 5) pe_int (fun _ _ => rfl)) (pa_cons pe_str (pa_cons pe_int (pa_cons pe_dnewK pa_nil))))))))))))
    (pss_cons (ps_set (i := 14) sc_law.nd rfl (Or.inl rfl) (pe_ix ix_list (pv 9) (pe_op op_mod (pe_op op_fdiv (pv 8) pe_int) pe_int) (fun _ _ => rfl)))
    (pss_cons (ps_set (i := 15) sc_law.nd rfl (Or.inl rfl) (pe_ix ix_list (pe_lst (pa_cons (pe_op op_sub (pe_un un_neg pe_int) (pv 8)) (pa_cons pe_bl (pa_cons pe_non (pa_cons pe_str (pa_cons (pe_lst (pa_cons pe_int pa_nil)) (pa_cons (pe_un un_neg pe_int) pa_nil))))))) (pe_op op_mod (pe_op op_fdiv (pv 8) pe_int) pe_int) (fun _ _ => rfl)))
    (pss_cons (ps_if (PW.pt (pw_or (pt_cmpR (op_neP hr.units) (pe_call (ok_law_refused T) (hr.mono (by decide)) (by rfl) T.g_law_refused T.f_law_refused.kp T.b_law_refused .nil pass0 (pa_cons pe_int (pa_cons (pv 14) (pa_cons (pv 15) pa_nil)))) (pe_lst (pa_cons pe_str pa_nil)) (nomark _)) (pw_or1 (pt_cmpR (op_neP hr.units) (pe_call (ok_law_refused T) (hr.mono (by decide)) (by rfl) T.g_law_refused T.f_law_refused.kp T.b_law_refused .nil pass0 (pa_cons pe_int (pa_cons (pv 14) (pa_cons pe_int pa_nil)))) (pe_lst (pa_cons pe_str pa_nil)) (nomark _))))) (pss_one (ps_ret pe_bl)) pss_nil)
    (pss_cons (ps_if (PW.pt (pw_or (pt_cmpR (op_neP hr.units) (pe_call (ok_law_refused T) (hr.mono (by decide)) (by rfl) T.g_law_refused T.f_law_refused.kp T.b_law_refused .nil pass0 (pa_cons pe_int (pa_cons (pv 14) (pa_cons pe_int pa_nil)))) (pe_lst (pa_cons pe_str pa_nil)) (nomark _)) (pw_or1 (pt_cmpR (op_neP hr.units) (pe_call (ok_law_refused T) (hr.mono (by decide)) (by rfl) T.g_law_refused T.f_law_refused.kp T.b_law_refused .nil pass0 (pa_cons pe_int (pa_cons (pv 5) (pa_cons (pv 15) pa_nil)))) (pe_lst (pa_cons pe_str pa_nil)) (nomark _))))) (pss_one (ps_ret pe_bl)) pss_nil)
    (pss_one (ps_ret (pe_and (pe_cmpR (op_eqP hr.units) (pv 5) (pv 7) (nomark _)) (pe_one (pe_call (ok_law_is T) (hr.mono (by decide)) (by rfl) T.g_law_is T.f_law_is.kp T.b_law_is .nil pass0 (pa_cons (pe_call (ok_at_least T) (hr.mono (by decide)) (by rfl) T.g_at_least T.f_at_least.kp T.b_at_least .nil passL (pa_cons (pv 5) (pa_cons pe_int pa_nil))) (pa_cons (pe_tup (pa_cons pe_int (pa_cons pe_int pa_nil))) pa_nil))))))))))))))))))))), ?_⟩
    have h63 : ns.length ≤ 1000 := by omega
    refine ⟨_, rfl, a, ns, 0, rfl, hS, h63, by decide, by decide, fun H1 e1 => ?_⟩
    obtain ⟨num0, num1⟩ := draw_range ns 0
    generalize drawN ns 0 = num at *
    obtain ⟨mo, mo0, mo1, hatm⟩ : ∃ mo : Int, 0 < mo ∧ mo ≤ 6 ∧ atI [V.int 6, .int 6, .int 6, .int 5] (num % 4) = some (.int mo) := by
      obtain h | h | h | h : num % 4 = 0 ∨ num % 4 = 1 ∨ num % 4 = 2 ∨ num % 4 = 3 := by omega
      · rw [h]
        exact ⟨6, by decide, by decide, at_of (j := 0) rfl rfl⟩
      · rw [h]
        exact ⟨6, by decide, by decide, at_of (j := 1) rfl rfl⟩
      · rw [h]
        exact ⟨6, by decide, by decide, at_of (j := 2) rfl rfl⟩
      · rw [h]
        exact ⟨5, by decide, by decide, at_of (j := 3) rfl rfl⟩
    obtain ⟨tp, tp0, tp1, hat⟩ : ∃ tp : Int, 0 ≤ tp ∧ tp ≤ 99 ∧ atI [V.int 99, .int 9, .int 2] (num / 4 % 3) = some (.int tp) := by
      obtain h | h | h : num / 4 % 3 = 0 ∨ num / 4 % 3 = 1 ∨ num / 4 % 3 = 2 := by omega
      · rw [h]
        exact ⟨99, by decide, by decide, at_of (j := 0) rfl rfl⟩
      · rw [h]
        exact ⟨9, by decide, by decide, at_of (j := 1) rfl rfl⟩
      · rw [h]
        exact ⟨2, by decide, by decide, at_of (j := 2) rfl rfl⟩
    have hm4 : 0 ≤ num % 4 ∧ num % 4 < 4 := by omega
    -- most, top
    refine ⟨sz_ok (show 4 ≤ 1000000 by decide), ?_⟩
    intro q1 m1
    have s1 := same_new (H := H1) (o := (.lst [.int 6, .int 6, .int 6, .int 5])) m1
    have hq1 := upd_same (H := H1) (a := q1) (o := (.lst [.int 6, .int 6, .int 6, .int 5]))
    generalize upd H1 q1 (.lst [.int 6, .int 6, .int 6, .int 5]) = H2 at *
    refine ⟨_, rfl, num, 4, rfl, rfl, md rfl, q1, _, _, .int mo, rfl, rfl, sq_of hq1, hatm, sz_ok (show 3 ≤ 1000000 by decide), ?_⟩
    intro q2 m2
    have s2 := same_new (H := H2) (o := (.lst [.int 99, .int 9, .int 2])) m2
    have hq2 := upd_same (H := H2) (a := q2) (o := (.lst [.int 99, .int 9, .int 2]))
    generalize upd H2 q2 (.lst [.int 99, .int 9, .int 2]) = H3 at *
    refine ⟨_, rfl, num, 4, rfl, rfl, dv rfl, _, 3, rfl, rfl, md rfl, q2, _, _, .int tp, rfl, rfl, sq_of hq2, hat, two_ok, ?_⟩
    intro q3 m3
    have s3 := same_new (H := H3) (o := (.tup [.int mo, .int tp])) m3
    have hq3 := upd_same (H := H3) (a := q3) (o := (.tup [.int mo, .int tp]))
    generalize upd H3 q3 (.tup [.int mo, .int tp]) = H4 at *
    refine ⟨q3, _, rfl, st_of hq3, rfl, _, _, rfl, _, _, rfl, rfl, ?_⟩
    have e4 := ((e1.trans s1).trans s2).trans s3
    -- the dice
    refine ⟨_, rfl, num, 4, rfl, rfl, md rfl, 1, _, rfl, rfl, _, rfl, by omega, by omega, fun D nD => ?_⟩
    refine lr_lists (fun _ c => good c) nD (by omega) (fun i H' R hi e r N => ?_) (fun H5 M => ?_)
    · refine ⟨rfl, iteT (B := N H') ?_⟩
      refine ⟨_, rfl, _, rfl, 10, _, rfl, rfl, .inl (by decide), _, 1, rfl, rfl, _, rfl, _, rfl, ?_⟩
      refine ⟨a, ns, _, mo, tp, rfl, (e4.trans e).seq hS, h63, by omega, by omega, mo0, by omega, tp0, by omega, fun H4 p e4 np hp => ?_⟩
      exact r H4 p _ e4 np hp (good_of ns _ mo0 (by omega) tp0 tp1)
    · have e5 := M.same
      obtain ⟨ps, dss, hD, lps, _, _, nd, gd⟩ := M.made
      have ldss : ps.length = dss.length := paired_len hD.2
      have hg : ∀ ds ∈ dss, good ds := fun ds hds => by
        obtain ⟨i, hi⟩ := List.mem_iff_getElem?.mp hds
        exact gd i ds hi
      have l1 : 1 ≤ dss.length := by omega
      have l2 : dss.length ≤ 4 := by omega
      -- sums
      refine ⟨_, rfl, D, ps, dss, rfl, hD, l2, fun ds h => (hg ds h).2.1, fun H6 u e6 nu hu => ?_⟩
      have t1 : 1 ≤ (throwsL dss).length := throws_pos dss [0] (fun ds h => (hg ds h).1) (Nat.le_refl 1)
      have t2 : (throwsL dss).length ≤ 4096 := throws_top (fun ds h => (hg ds h).2.1) l2
      have t0 : ∀ t ∈ throwsL dss, 0 ≤ t := throws_nonneg dss [0] (fun ds h f hf => ((hg ds h).2.2 f hf).1) (fun t ht => by rw [List.mem_singleton.mp ht]; exact Int.le_refl 0)
      have hD6 := hD.mono e6
      -- kept
      refine ⟨_, rfl, D, rfl, ⟨_, sq_of hD6.1⟩, fun D2 nD2 => ?_⟩
      refine ll_lists (K := K) (fun i c => dss[i]? = some c) nD2 (sq_of hD6.1) (by rw [List.length_map]; omega) (fun i x H' R hi e r N => ?_) (fun H7 M2 => ?_)
      · rw [List.getElem?_map] at hi
        cases hpi : ps[i]? with
        | none => rw [hpi] at hi; cases hi
        | some p =>
          rw [hpi] at hi
          cases hi
          obtain ⟨ds, hdi, hp⟩ := paired_at hD6.2 hpi
          exact ⟨rfl, iteT (B := N H') ⟨_, rfl, p, _, rfl, .inl (sq_of (e _ _ hp)), fun l nl => r _ l ds (same_new nl) nl upd_same hdi⟩⟩
      · have e7 := M2.same
        obtain ⟨ps2, dss2, hD2, lps2, fr2, nin2, nd2, gd2⟩ := M2.made
        have ed : dss = dss2 := (ext_of (by have := paired_len hD2.2; rw [List.length_map] at lps2; omega) gd2).symm
        subst ed
        have hD7 := hD6.mono e7
        have hu7 := e7 _ _ hu
        have hS7 : SqL K H7 a (ns.map V.int) := (((e4.trans e5).trans e6).trans e7).seq hS
        have hgd : ∀ H', Same H7 H' → GoodDice H' (.ref D) := fun H' e => ⟨D, ps, dss, rfl, hD7.mono e, l1, l2, hg⟩
        clear M M2 hD hD6 hu hS hq1 hq2 hq3 hat hatm
        clear nD nD2 nu m1 m2 m3
        generalize hT : throwsL dss = sums at *
        -- the bounds
        refine ⟨5, rfl, by decide, by decide, for_range (lo := 0) (n := 5)
          (fun i σ H' => Same H7 H' ∧ ∃ y1 y2 y3 y4 y5 y6 y7 y8 y9 y10 y11, σ = [some (.ref a), some (.int num), some (.int mo), some (.int tp), y1, some (.ref D), some (.ref u), some (.ref D2), y2, y3, y4, y5, y6, y7, y8, y9, y10, y11])
          ⟨Same.refl H7, _, _, _, _, _, _, _, _, _, _, _, rfl⟩ ?_ ?_⟩
        · rintro i σ H8 hi ⟨e8, y1, y2, y3, y4, y5, y6, y7, y8, y9, y10, y11, rfl⟩
          refine ⟨_, rfl, _, rfl, 50, _, rfl, rfl, a, ns, 50 + ((0 : Int) + (i : Int)), rfl, e8.seq hS7, h63, by omega, by omega, fun H9 e9 => ?_⟩
          obtain ⟨more0, more1⟩ := draw_range ns (50 + ((0 : Int) + (i : Int)))
          generalize drawN ns (50 + ((0 : Int) + (i : Int))) = more at *
          have e79 := e8.trans e9
          have hu9 := sq_of (K := K) (e79 _ _ hu7)
          -- some
          have hu9' : 0 < sums.length := t1
          refine ⟨_, rfl, u, sums, rfl, hu9, t1, fun x1 xm1 xl1 => ?_⟩
          refine ⟨_, rfl, u, sums, rfl, hu9, t1, fun x2 xm2 xl2 => ⟨x2, 1, rfl, rfl, _, rfl, _, more, rfl, rfl, ?_⟩⟩
          refine ⟨10, 60, rfl, rfl, ⟨by decide, by decide, by decide⟩, 10, 60, rfl, rfl, ⟨by decide, by decide, by decide⟩, _, _, rfl, rfl, wide_mul (a := 300) (b := 300) (by decide +kernel) (by decide +kernel) (by decide) (by decide) (by decide), ?_⟩
          have p1 := t0 x1 xm1
          have p2 := t0 x2 xm2
          refine ⟨_, rfl, _, rfl, u, sums, rfl, hu9, t1, fun x3 xm3 xl3 => ⟨x3, 2, rfl, rfl, more, _, rfl, rfl, ?_⟩⟩
          have p3 := t0 x3 xm3
          have hat0 := Int.emod_nonneg more (show ((sums.length : Nat) : Int) ≠ 0 by omega)
          have hat1 := Int.emod_lt_of_pos more (show (0 : Int) < ((sums.length : Nat) : Int) by omega)
          have hmod := Int.emod_nonneg more (show x3 + 2 ≠ 0 by omega)
          obtain ⟨sv, hsv⟩ : ∃ sv, sums[(more % ((sums.length : Nat) : Int)).toNat]? = some sv := ⟨_, List.getElem?_eq_getElem (by omega)⟩
          have hat9 : atI (sums.map V.int) (more % (((sums.map V.int).length : Nat) : Int)) = some (.int sv) := at_of (j := (more % ((sums.length : Nat) : Int)).toNat) (by rw [List.length_map]; omega) (by rw [List.getElem?_map, hsv]; rfl)
          have hsv0 := t0 sv (List.mem_of_getElem? hsv)
          refine ⟨by omega, _, rfl, _, rfl, _, rfl, u, _, rfl, .inl hu9, more, _, rfl, rfl, by rw [List.length_map]; omega, u, _, _, .int sv, rfl, rfl, hu9, hat9, sz_ok (show 6 ≤ 1000000 by decide), ?_⟩
          intro v1 n1
          have z1 := same_new (H := H9) (o := (.lst [.int 0, .int x1, .int (x2 + 1 + more), .int (10 ^ (60 : Int).toNat * 10 ^ (60 : Int).toNat), .int (more % (x3 + 2)), .int sv])) n1
          have hv1 := upd_same (H := H9) (a := v1) (o := (.lst [.int 0, .int x1, .int (x2 + 1 + more), .int (10 ^ (60 : Int).toNat * 10 ^ (60 : Int).toNat), .int (more % (x3 + 2)), .int sv]))
          generalize upd H9 v1 (.lst [.int 0, .int x1, .int (x2 + 1 + more), .int (10 ^ (60 : Int).toNat * 10 ^ (60 : Int).toNat), .int (more % (x3 + 2)), .int sv]) = H10 at *
          obtain ⟨bv, hbv, b, rfl, hb0⟩ : ∃ v, ([.int 0, .int x1, .int (x2 + 1 + more), .int (10 ^ (60 : Int).toNat * 10 ^ (60 : Int).toNat), .int (more % (x3 + 2)), .int sv] : List V)[(more / 8 % 6).toNat]? = some v ∧ ∃ b, v = .int b ∧ 0 ≤ b :=
            pick (show (more / 8 % 6).toNat < 6 by omega) (by
              refine List.forall_mem_cons.mpr ⟨⟨_, rfl, by omega⟩, List.forall_mem_cons.mpr ⟨⟨_, rfl, p1⟩, List.forall_mem_cons.mpr ⟨⟨_, rfl, by omega⟩, List.forall_mem_cons.mpr ⟨⟨_, rfl, by decide +kernel⟩, List.forall_mem_cons.mpr ⟨⟨_, rfl, hmod⟩, List.forall_mem_cons.mpr ⟨⟨_, rfl, hsv0⟩, List.forall_mem_nil _⟩⟩⟩⟩⟩⟩)
          -- bound
          refine ⟨_, rfl, _, rfl, more, 8, rfl, rfl, dv rfl, _, 6, rfl, rfl, md rfl, v1, _, _, .int b, rfl, rfl, sq_of hv1, at_of (by omega) hbv, ?_⟩
          -- due
          have hu10 := sq_of (K := K) ((e79.trans z1) _ _ hu7)
          have e710 := e79.trans z1
          refine ⟨_, rfl, u, rfl, ⟨_, hu10⟩, fun D3 nD3 => ?_⟩
          refine lc_map (K := K) (fun v => match v with | .int t => decide (b ≤ t) | _ => false) (fun v => v) nD3 hu10 (by rw [List.length_map]; omega) (fun x H' R N hx e r0 r1 => ?_) (fun H11 e11 hD3 => ?_)
          · obtain ⟨t, _, rfl⟩ := List.mem_map.mp hx
            refine ⟨rfl, _, rfl, _, rfl, t, b, rfl, rfl, _, rfl, iteD (fun c => ?_) (fun c => ?_)⟩
            · exact ⟨_, rfl, r0 (decide_eq_true c) H' (Same.refl H')⟩
            · exact r1 (decide_eq_false c) H' (Same.refl H')
          · rw [filter_ints, List.map_id'] at hD3
            have fl := List.length_filter_le (fun t => decide (b ≤ t)) sums
            refine ⟨D3, _, rfl, .inl (sq_of hD3), _, rfl, u, _, rfl, .inl (e11.seq hu10), ?_⟩
            rw [List.length_map, List.length_map]
            refine ⟨_, _, rfl, by omega, by omega, by omega, by omega, fun H12 p12 e12 np12 hp12 => ?_⟩
            have e712 := (e710.trans e11).trans e12
            -- the answer
            refine ⟨_, rfl, _, rfl, _, _, rfl, dthing_dice (hD7.mono e712), ⟨_, .int b⟩, fun _ => hgd _ e712, fun hv => ?_, fun _ hbb => ?_, fun a' ps' dss' z' ev hD' _ eb _ H13 p13 e13 np13 hp13 => ?_⟩
            · rw [good_dice (hgd _ e712)] at hv
              cases hv
            · have : decide (0 ≤ b) = false := hbb
              rw [decide_eq_true hb0] at this
              cases this
            · cases ev
              cases eb
              obtain ⟨_, e2⟩ := dice_uniq (hD7.mono e712) hD'
              subst e2
              refine ⟨_, rfl, p13, p12, _, _, rfl, hp13, e13 _ _ hp12, share_len _ _, fun H14 e14 => ⟨_, rfl, ?_⟩⟩
              unfold shareAt
              rw [hT, decide_eq_true rfl]
              exact iteF ⟨((e712.trans e13).trans e14), _, _, _, _, _, _, _, _, _, _, _, rfl⟩
        · rintro σ H8 ⟨e8, y1, y2, y3, y4, y5, y6, y7, y8, y9, y10, y11, rfl⟩
          refine ⟨_, rfl, a, ns, 60, rfl, e8.seq hS7, h63, by decide, by decide, fun H9 e9 => ?_⟩
          obtain ⟨more0, more1⟩ := draw_range ns 60
          generalize drawN ns 60 = more at *
          have e79 := e8.trans e9
          -- face
          refine ⟨1, rfl, sz_ok (show 1 ≤ 1000000 by decide), ?_⟩
          intro f1 nf1
          have r1 := same_new (H := H9) (o := (.lst [.int 1])) nf1
          have hf1 := upd_same (H := H9) (a := f1) (o := (.lst [.int 1]))
          generalize upd H9 f1 (.lst [.int 1]) = H10 at *
          refine ⟨10, 60, rfl, rfl, ⟨by decide, by decide, by decide⟩, sz_ok (show 7 ≤ 1000000 by decide), ?_⟩
          intro f2 nf2
          have r2 := same_new (H := H10) (o := (.lst [.int (-1), .int 100, .bl true, .non, .str "1", .ref f1, .int (10 ^ (60 : Int).toNat)])) nf2
          have hf2 := upd_same (H := H10) (a := f2) (o := (.lst [.int (-1), .int 100, .bl true, .non, .str "1", .ref f1, .int (10 ^ (60 : Int).toNat)]))
          generalize upd H10 f2 (.lst [.int (-1), .int 100, .bl true, .non, .str "1", .ref f1, .int (10 ^ (60 : Int).toNat)]) = H11 at *
          have hf1 := r2 _ _ hf1
          have e711 := (e79.trans r1).trans r2
          obtain ⟨face, hface, hff, hfk⟩ : ∃ v, ([.int (-1), .int 100, .bl true, .non, .str "1", .ref f1, .int (10 ^ (60 : Int).toNat)] : List V)[(more % 7).toNat]? = some v ∧ faceB v = false ∧ ∃ n, Kd H11 v n :=
            pick (show (more % 7).toNat < 7 by omega) (by
              refine List.forall_mem_cons.mpr ⟨⟨rfl, _, .int _⟩, List.forall_mem_cons.mpr ⟨⟨rfl, _, .int _⟩, List.forall_mem_cons.mpr ⟨⟨rfl, _, .bl _⟩, List.forall_mem_cons.mpr ⟨⟨rfl, _, .non⟩, List.forall_mem_cons.mpr ⟨⟨rfl, _, .str _⟩,
                List.forall_mem_cons.mpr ⟨⟨rfl, _, .lst hf1⟩, List.forall_mem_cons.mpr ⟨⟨?_, _, .int _⟩, List.forall_mem_nil _⟩⟩⟩⟩⟩⟩⟩
              decide +kernel)
          refine ⟨_, rfl, more, 7, rfl, rfl, md rfl, f2, _, _, face, rfl, rfl, sq_of hf2, at_of (by omega) hface, ?_⟩
          -- bad
          refine ⟨_, rfl, sz_ok (show 1 ≤ 1000000 by decide), ?_⟩
          intro b1 nb1
          have u1 := same_new (H := H11) (o := (.lst [face])) nb1
          have hb1 := upd_same (H := H11) (a := b1) (o := (.lst [face]))
          generalize upd H11 b1 (.lst [face]) = H12 at *
          refine ⟨Nat.zero_le _, ?_⟩
          intro b2 nb2
          have u2 := same_new (H := H12) (o := (.lst [])) nb2
          have hb2 := upd_same (H := H12) (a := b2) (o := (.lst []))
          generalize upd H12 b2 (.lst []) = H13 at *
          refine ⟨two_ok, ?_⟩
          intro b3 nb3
          have u3 := same_new (H := H13) (o := (.tup [.int 1, .int 2])) nb3
          have hb3 := upd_same (H := H13) (a := b3) (o := (.tup [.int 1, .int 2]))
          generalize upd H13 b3 (.tup [.int 1, .int 2]) = H14 at *
          refine ⟨sz_ok (show 1 ≤ 1000000 by decide), ?_⟩
          intro b4 nb4
          have u4 := same_new (H := H14) (o := (.lst [.int 1])) nb4
          have hb4 := upd_same (H := H14) (a := b4) (o := (.lst [.int 1]))
          generalize upd H14 b4 (.lst [.int 1]) = H15 at *
          refine ⟨b4, 9, _, rfl, rfl, hb4, by decide, by decide, sz_ok (show 9 ≤ 1000000 by decide), ?_⟩
          intro b5 nb5
          have u5 := same_new (H := H15) (o := (.lst (List.replicate (9 : Int).toNat [V.int 1]).flatten)) nb5
          have hb5 := upd_same (H := H15) (a := b5) (o := (.lst (List.replicate (9 : Int).toNat [V.int 1]).flatten))
          generalize upd H15 b5 (.lst (List.replicate (9 : Int).toNat [V.int 1]).flatten) = H16 at *
          intro b6 nb6
          have u6 := same_new (H := H16) (o := (.dK [])) nb6
          have hb6 := upd_same (H := H16) (a := b6) (o := (.dK []))
          generalize upd H16 b6 (.dK []) = H17 at *
          refine ⟨sz_ok (show 8 ≤ 1000000 by decide), ?_⟩
          intro b7 nb7
          have u7 := same_new (H := H17) (o := (.lst [.ref b1, .ref b2, .ref b3, .non, .str "12", .ref b5, .int 5, .ref b6])) nb7
          have hb7 := upd_same (H := H17) (a := b7) (o := (.lst [.ref b1, .ref b2, .ref b3, .non, .str "12", .ref b5, .int 5, .ref b6]))
          generalize upd H17 b7 (.lst [.ref b1, .ref b2, .ref b3, .non, .str "12", .ref b5, .int 5, .ref b6]) = H18 at *
          have g6 := u7
          have g5 := u6.trans g6
          have g4 := u5.trans g5
          have g3 := u4.trans g4
          have g2 := u3.trans g3
          have g1 := u2.trans g2
          have g0 := u1.trans g1
          obtain ⟨bad, hbad, hB⟩ : ∃ v, ([.ref b1, .ref b2, .ref b3, .non, .str "12", .ref b5, .int 5, .ref b6] : List V)[(more / 8 % 8).toNat]? = some v ∧ Bad H18 v :=
            pick (show (more / 8 % 8).toNat < 8 by omega) (by
              refine List.forall_mem_cons.mpr ⟨bad_list (g1 _ _ hb1) (fun x hx => ?_) (dieB_mem List.mem_cons_self hff), List.forall_mem_cons.mpr ⟨bad_list (g2 _ _ hb2) (fun x hx => by cases hx) rfl, List.forall_mem_cons.mpr ⟨bad_non (.tup (g3 _ _ hb3)) (lstOf_tup (g3 _ _ hb3)),
                List.forall_mem_cons.mpr ⟨bad_non .non rfl, List.forall_mem_cons.mpr ⟨bad_non (.str _) rfl, List.forall_mem_cons.mpr ⟨bad_list (g5 _ _ hb5) (fun x hx => ?_) rfl, List.forall_mem_cons.mpr ⟨bad_non (.int _) rfl,
                List.forall_mem_cons.mpr ⟨bad_non (.dct (g6 _ _ hb6)) (lstOf_dct (g6 _ _ hb6)), List.forall_mem_nil _⟩⟩⟩⟩⟩⟩⟩⟩
              · rw [List.mem_singleton.mp hx]
                obtain ⟨n, k⟩ := hfk
                exact ⟨n, k.mono g0⟩
              · obtain ⟨l, hl, hxl⟩ := List.mem_flatten.mp hx
                rw [List.eq_of_mem_replicate hl] at hxl
                rw [List.mem_singleton.mp hxl]
                exact ⟨_, .int _⟩)
          refine ⟨_, rfl, more, 8, rfl, rfl, dv rfl, _, 8, rfl, rfl, md rfl, b7, _, _, bad, rfl, rfl, sq_of hb7, at_of (by omega) hbad, ?_⟩
          have e718 := e711.trans g0
          -- some
          obtain ⟨p0, pr, rfl⟩ : ∃ p0 pr, ps = p0 :: pr := by
            cases ps with
            | nil => simp at ldss; omega
            | cons p0 pr => exact ⟨p0, pr, rfl⟩
          have hD18 := sq_of (K := K) (e718 _ _ hD7.1)
          refine ⟨_, rfl, 3, rfl, D, _, rfl, hD18, ?_⟩
          intro c1 nc1
          have w1 := same_new (H := H18) (o := (.lst (cutV ((p0 :: pr).map V.ref) none (some 3)))) nc1
          have hc1 := upd_same (H := H18) (a := c1) (o := (.lst (cutV ((p0 :: pr).map V.ref) none (some 3))))
          generalize upd H18 c1 (.lst (cutV ((p0 :: pr).map V.ref) none (some 3))) = H19 at *
          refine ⟨_, rfl, sz_ok (show 1 ≤ 1000000 by decide), ?_⟩
          intro c2 nc2
          have w2 := same_new (H := H19) (o := (.lst [bad])) nc2
          have hc2 := upd_same (H := H19) (a := c2) (o := (.lst [bad]))
          generalize upd H19 c2 (.lst [bad]) = H20 at *
          have cutl : (cutV ((p0 :: pr).map V.ref) none (some 3)).length ≤ 4 := by
            refine Nat.le_trans (cutV_length _ _ _) ?_
            rw [List.length_map]
            omega
          have hc1 := w2 _ _ hc1
          refine ⟨c1, c2, _, _, rfl, rfl, hc1, hc2, sz_ok (by show _ + 1 ≤ _; omega), ?_⟩
          intro c3 nc3
          have w3 := same_new (H := H20) (o := (.lst (cutV ((p0 :: pr).map V.ref) none (some 3) ++ [bad]))) nc3
          have hc3 := upd_same (H := H20) (a := c3) (o := (.lst (cutV ((p0 :: pr).map V.ref) none (some 3) ++ [bad])))
          generalize upd H20 c3 (.lst (cutV ((p0 :: pr).map V.ref) none (some 3) ++ [bad])) = H21 at *
          refine ⟨_, rfl, sz_ok (show 1 ≤ 1000000 by decide), ?_⟩
          intro c4 nc4
          have w4 := same_new (H := H21) (o := (.lst [bad])) nc4
          have hc4 := upd_same (H := H21) (a := c4) (o := (.lst [bad]))
          generalize upd H21 c4 (.lst [bad]) = H22 at *
          have w14 := ((w1.trans w2).trans w3).trans w4
          refine ⟨_, rfl, 3, rfl, D, _, rfl, w14.seq hD18, ?_⟩
          intro c5 nc5
          have w5 := same_new (H := H22) (o := (.lst (cutV ((p0 :: pr).map V.ref) none (some 3)))) nc5
          have hc5 := upd_same (H := H22) (a := c5) (o := (.lst (cutV ((p0 :: pr).map V.ref) none (some 3))))
          generalize upd H22 c5 (.lst (cutV ((p0 :: pr).map V.ref) none (some 3))) = H23 at *
          have hc4 := w5 _ _ hc4
          refine ⟨c4, c5, _, _, rfl, rfl, hc4, hc5, sz_ok (by show 1 + _ ≤ _; omega), ?_⟩
          intro c6 nc6
          have w6 := same_new (H := H23) (o := (.lst ([bad] ++ cutV ((p0 :: pr).map V.ref) none (some 3)))) nc6
          have hc6 := upd_same (H := H23) (a := c6) (o := (.lst ([bad] ++ cutV ((p0 :: pr).map V.ref) none (some 3))))
          generalize upd H23 c6 (.lst ([bad] ++ cutV ((p0 :: pr).map V.ref) none (some 3))) = H24 at *
          refine ⟨Nat.zero_le _, ?_⟩
          intro c7 nc7
          have w7 := same_new (H := H24) (o := (.lst [])) nc7
          have hc7 := upd_same (H := H24) (a := c7) (o := (.lst []))
          generalize upd H24 c7 (.lst []) = H25 at *
          have w17 := ((w14.trans w5).trans w6).trans w7
          refine ⟨_, rfl, D, _, rfl, .inl ⟨w17.seq hD18, ?_⟩⟩
          intro c8 nc8
          have w8 := same_new (H := H25) (o := (.tup ((p0 :: pr).map V.ref))) nc8
          have hc8 := upd_same (H := H25) (a := c8) (o := (.tup ((p0 :: pr).map V.ref)))
          generalize upd H25 c8 (.tup ((p0 :: pr).map V.ref)) = H26 at *
          have w18 := w17.trans w8
          refine ⟨_, rfl, D, _, 0, .ref p0, rfl, rfl, w18.seq hD18, atI_nat (j := 0) rfl, sz_ok (show 1 ≤ 1000000 by decide), ?_⟩
          intro c9 nc9
          have w9 := same_new (H := H26) (o := (.lst [.ref p0])) nc9
          have hc9 := upd_same (H := H26) (a := c9) (o := (.lst [.ref p0]))
          generalize upd H26 c9 (.lst [.ref p0]) = H27 at *
          refine ⟨c9, 5, _, rfl, rfl, hc9, by decide, by decide, sz_ok (show 5 ≤ 1000000 by decide), ?_⟩
          intro c10 nc10
          have w10 := same_new (H := H27) (o := (.lst (List.replicate (5 : Int).toNat [V.ref p0]).flatten)) nc10
          have hc10 := upd_same (H := H27) (a := c10) (o := (.lst (List.replicate (5 : Int).toNat [V.ref p0]).flatten))
          generalize upd H27 c10 (.lst (List.replicate (5 : Int).toNat [V.ref p0]).flatten) = H28 at *
          have w110 := (w18.trans w9).trans w10
          refine ⟨_, rfl, D, _, 0, .ref p0, rfl, rfl, w110.seq hD18, atI_nat (j := 0) rfl, ?_⟩
          intro c11 nc11
          have w11 := same_new (H := H28) (o := (.dK [])) nc11
          have hc11 := upd_same (H := H28) (a := c11) (o := (.dK []))
          generalize upd H28 c11 (.dK []) = H29 at *
          refine ⟨sz_ok (show 10 ≤ 1000000 by decide), ?_⟩
          intro c12 nc12
          have w12 := same_new (H := H29) (o := (.lst [.ref c3, .ref c6, .non, .ref c7, .ref c8, .ref c10, .ref p0, .str "dice", .int 5, .ref c11])) nc12
          have hc12 := upd_same (H := H29) (a := c12) (o := (.lst [.ref c3, .ref c6, .non, .ref c7, .ref c8, .ref c10, .ref p0, .str "dice", .int 5, .ref c11]))
          generalize upd H29 c12 (.lst [.ref c3, .ref c6, .non, .ref c7, .ref c8, .ref c10, .ref p0, .str "dice", .int 5, .ref c11]) = H30 at *
          have k11 := w12
          have k10 := w11.trans k11
          have k9 := w10.trans k10
          have k8 := w9.trans k9
          have k7 := w8.trans k8
          have k6 := w7.trans k7
          have k5 := w6.trans k6
          have k4 := w5.trans k5
          have k3 := w4.trans k4
          have k2 := w3.trans k3
          have k1 := w2.trans k2
          have k0 := w1.trans k1
          have e730 := e718.trans k0
          have hD30 := hD7.mono e730
          have hB30 := hB.mono k0
          have cutT : ∀ x ∈ cutV ((p0 :: pr).map V.ref) none (some 3), Thing H30 x := fun x hx => by
            obtain ⟨p, hp, rfl⟩ := List.mem_map.mp (cutV_mem hx)
            obtain ⟨ds, _, r⟩ := paired_mem hD30.2 hp
            exact thing_die r
          obtain ⟨d0, hd0, hp0⟩ := paired_mem hD30.2 (List.mem_cons_self (a := p0) (l := pr))
          obtain ⟨wrong, hwr, hW⟩ : ∃ v, ([.ref c3, .ref c6, .non, .ref c7, .ref c8, .ref c10, .ref p0, .str "dice", .int 5, .ref c11] : List V)[(more / 64 % 10).toNat]? = some v ∧ NoDice H30 4 v :=
            pick (show (more / 64 % 10).toNat < 10 by omega) (by
              refine List.forall_mem_cons.mpr ⟨nodice_list (k3 _ _ hc3) (fun x hx => ?_) (.inl ⟨bad, by simp, hB30.no⟩), List.forall_mem_cons.mpr ⟨nodice_list (k6 _ _ hc6) (fun x hx => ?_) (.inl ⟨bad, by simp, hB30.no⟩), List.forall_mem_cons.mpr ⟨nodice_non .non rfl,
                List.forall_mem_cons.mpr ⟨nodice_list (k7 _ _ hc7) (fun x hx => by cases hx) (.inr (.inl rfl)), List.forall_mem_cons.mpr ⟨nodice_non (.tup (k8 _ _ hc8)) (lstOf_tup (k8 _ _ hc8)), List.forall_mem_cons.mpr ⟨nodice_list (k10 _ _ hc10) (fun x hx => ?_) (.inr (.inr (show (4 : Int) < ((5 : Nat) : Int) by decide))),
                List.forall_mem_cons.mpr ⟨nodice_list hp0 (fun x hx => ?_) (.inl ?_), List.forall_mem_cons.mpr ⟨nodice_non (.str _) rfl, List.forall_mem_cons.mpr ⟨nodice_non (.int _) rfl, List.forall_mem_cons.mpr ⟨nodice_non (.dct (k11 _ _ hc11)) (lstOf_dct (k11 _ _ hc11)), List.forall_mem_nil _⟩⟩⟩⟩⟩⟩⟩⟩⟩⟩
              · rcases List.mem_append.mp hx with hx | hx
                · exact cutT x hx
                · rw [List.mem_singleton.mp hx]
                  exact hB30.th
              · rcases List.mem_append.mp hx with hx | hx
                · rw [List.mem_singleton.mp hx]
                  exact hB30.th
                · exact cutT x hx
              · obtain ⟨l, hl, hxl⟩ := List.mem_flatten.mp hx
                rw [List.eq_of_mem_replicate hl] at hxl
                rw [List.mem_singleton.mp hxl]
                exact thing_die hp0
              · obtain ⟨i, _, rfl⟩ := List.mem_map.mp hx
                exact thing_non (.int _) rfl
              · have hgd0 := hg d0 hd0
                obtain ⟨f, hf⟩ : ∃ f, f ∈ d0 := by
                  cases d0 with
                  | nil => exact absurd hgd0.1 (by decide)
                  | cons f r => exact ⟨f, List.mem_cons_self⟩
                exact ⟨.int f, List.mem_map.mpr ⟨f, hf, rfl⟩, rfl⟩)
          refine ⟨_, rfl, _, rfl, more, 64, rfl, rfl, dv rfl, _, 10, rfl, rfl, md rfl, c12, _, _, wrong, rfl, rfl, sq_of hc12, at_of (by omega) hwr, ?_⟩
          -- odd
          refine ⟨1, rfl, _, rfl, _, more, rfl, rfl, sz_ok (show 1 ≤ 1000000 by decide), ?_⟩
          intro o1 no1
          have j1 := same_new (H := H30) (o := (.lst [.int 3])) no1
          have ho1 := upd_same (H := H30) (a := o1) (o := (.lst [.int 3]))
          generalize upd H30 o1 (.lst [.int 3]) = H31 at *
          refine ⟨1, rfl, sz_ok (show 6 ≤ 1000000 by decide), ?_⟩
          intro o2 no2
          have j2 := same_new (H := H31) (o := (.lst [.int (-1 - more), .bl true, .non, .str "3", .ref o1, .int (-1)])) no2
          have ho2 := upd_same (H := H31) (a := o2) (o := (.lst [.int (-1 - more), .bl true, .non, .str "3", .ref o1, .int (-1)]))
          generalize upd H31 o2 (.lst [.int (-1 - more), .bl true, .non, .str "3", .ref o1, .int (-1)]) = H32 at *
          have j12 := j1.trans j2
          obtain ⟨odd, hodd, hob, hok⟩ : ∃ v, ([.int (-1 - more), .bl true, .non, .str "3", .ref o1, .int (-1)] : List V)[(more / 1024 % 6).toNat]? = some v ∧ boundB v = false ∧ ∃ n, Kd H32 v n :=
            pick (show (more / 1024 % 6).toNat < 6 by omega) (by
              refine List.forall_mem_cons.mpr ⟨⟨decide_eq_false (by omega), _, .int _⟩, List.forall_mem_cons.mpr ⟨⟨rfl, _, .bl _⟩, List.forall_mem_cons.mpr ⟨⟨rfl, _, .non⟩, List.forall_mem_cons.mpr ⟨⟨rfl, _, .str _⟩,
                List.forall_mem_cons.mpr ⟨⟨rfl, _, .lst (j2 _ _ ho1)⟩, List.forall_mem_cons.mpr ⟨⟨rfl, _, .int _⟩, List.forall_mem_nil _⟩⟩⟩⟩⟩⟩)
          refine ⟨_, rfl, more, 1024, rfl, rfl, dv rfl, _, 6, rfl, rfl, md rfl, o2, _, _, odd, rfl, rfl, sq_of ho2, at_of (by omega) hodd, ?_⟩
          have e732 := e730.trans j12
          have hW32 : ∀ H', Same H32 H' → NoDice H' 4 wrong := fun H' e => hW.mono (j12.trans e)
          have hk3 : ∀ H' : Hp, ∃ n, Kd H' (V.int 3) n := fun H' => ⟨_, .int _⟩
          have hk0 : ∀ H' : Hp, ∃ n, Kd H' (V.int 0) n := fun H' => ⟨_, .int _⟩
          have hko : ∀ H', Same H32 H' → ∃ n, Kd H' odd n := fun H' e => by
            obtain ⟨n, k⟩ := hok
            exact ⟨n, k.mono e⟩
          clear hB hB30 hbad hface hwr hodd
          clear hc1 hc2 hc3 hc4 hc5 hc6 hc7 hc8 hc9 hc10 hc11 hc12
          clear hb1 hb2 hb3 hb4 hb5 hb6 hb7
          -- refused
          refine ⟨_, rfl, _, rfl, 0, wrong, odd, "dice", rfl, (hW32 _ (Same.refl _)).th, hko _ (Same.refl _), .inl ⟨rfl, (hW32 _ (Same.refl _)).no⟩, fun H33 r1 e33 nr1 hr1 => ⟨sz_ok (show 1 ≤ 1000000 by decide), ?_⟩⟩
          intro l1' nl1
          have x1 := same_new (H := H33) (o := (.lst [.str "dice"])) nl1
          have hl1 := upd_same (H := H33) (a := l1') (o := (.lst [.str "dice"]))
          generalize upd H33 l1' (.lst [.str "dice"]) = H34 at *
          refine ne_is (is_list (sq_of (x1 _ _ hr1)) (.strs [("dice" : Str)])) (is_list (sq_of hl1) (.strs [("dice" : Str)])) ⟨_, rfl, ?_⟩
          rw [decide_eq_true rfl]
          have e34 := e33.trans x1
          refine iteF ⟨_, rfl, 0, wrong, .int 3, "dice", rfl, (hW32 _ e34).th, hk3 _, .inl ⟨rfl, (hW32 _ e34).no⟩, fun H35 r2 e35 nr2 hr2 => ⟨sz_ok (show 1 ≤ 1000000 by decide), ?_⟩⟩
          intro l2' nl2
          have x2 := same_new (H := H35) (o := (.lst [.str "dice"])) nl2
          have hl2 := upd_same (H := H35) (a := l2') (o := (.lst [.str "dice"]))
          generalize upd H35 l2' (.lst [.str "dice"]) = H36 at *
          refine ne_is (is_list (sq_of (x2 _ _ hr2)) (.strs [("dice" : Str)])) (is_list (sq_of hl2) (.strs [("dice" : Str)])) ⟨_, rfl, ?_⟩
          rw [decide_eq_true rfl]
          have e36 := (e34.trans e35).trans x2
          refine iteF ⟨_, rfl, 1, wrong, .int 0, "dice", rfl, (hW32 _ e36).th, hk0 _, .inl ⟨rfl, (hW32 _ e36).no⟩, fun H37 r3 e37 nr3 hr3 => ⟨sz_ok (show 1 ≤ 1000000 by decide), ?_⟩⟩
          intro l3' nl3
          have x3 := same_new (H := H37) (o := (.lst [.str "dice"])) nl3
          have hl3 := upd_same (H := H37) (a := l3') (o := (.lst [.str "dice"]))
          generalize upd H37 l3' (.lst [.str "dice"]) = H38 at *
          refine ne_is (is_list (sq_of (x3 _ _ hr3)) (.strs [("dice" : Str)])) (is_list (sq_of hl3) (.strs [("dice" : Str)])) ⟨_, rfl, ?_⟩
          rw [decide_eq_true rfl]
          have e38 := (e36.trans e37).trans x3
          have e738 := e732.trans e38
          refine iteF ⟨_, rfl, _, rfl, 0, .ref D, odd, "number", rfl, dthing_dice (hD7.mono e738), hko _ e38, .inr ⟨rfl, rfl, hgd _ e738, hob⟩, fun H39 r4 e39 nr4 hr4 => ⟨sz_ok (show 1 ≤ 1000000 by decide), ?_⟩⟩
          intro l4' nl4
          have x4 := same_new (H := H39) (o := (.lst [.str "number"])) nl4
          have hl4 := upd_same (H := H39) (a := l4') (o := (.lst [.str "number"]))
          generalize upd H39 l4' (.lst [.str "number"]) = H40 at *
          refine ne_is (is_list (sq_of (x4 _ _ hr4)) (.strs [("number" : Str)])) (is_list (sq_of hl4) (.strs [("number" : Str)])) ⟨_, rfl, ?_⟩
          rw [decide_eq_true rfl]
          have e740 := (e738.trans e39).trans x4
          refine iteF ?_
          -- return
          refine ⟨_, rfl, _, rfl, eq_is (is_dice (hD7.mono e740)) (is_dice (hD2.mono e740)) ⟨_, rfl, ?_⟩⟩
          rw [decide_eq_true rfl]
          refine iteT ?_
          refine ⟨_, rfl, .ref D, .int 0, rfl, dthing_dice (hD7.mono e740), ⟨_, .int 0⟩, fun _ => hgd _ e740, fun hv => ?_, fun _ hbb => ?_, fun a' ps' dss' z' ev hD' _ eb _ H41 p41 e41 np41 hp41 => ?_⟩
          · rw [good_dice (hgd _ e740)] at hv
            cases hv
          · cases hbb
          · cases ev
            cases eb
            obtain ⟨_, e2⟩ := dice_uniq (hD7.mono e740) hD'
            subst e2
            refine ⟨two_ok, ?_⟩
            intro t3 nt3
            have x5 := same_new (H := H41) (o := (.tup [.int 1, .int 1])) nt3
            have ht3 := upd_same (H := H41) (a := t3) (o := (.tup [.int 1, .int 1]))
            generalize upd H41 t3 (.tup [.int 1, .int 1]) = H42 at *
            refine ⟨p41, t3, _, [1, 1], rfl, x5 _ _ hp41, ht3, share_len _ _, fun H43 e43 => ?_⟩
            unfold shareAt
            rw [hT, all_enough t0, share_one (by omega), decide_eq_true rfl]
            exact q H43
end
end My

namespace My
open PySem PySem.Spec PyProof.Rows L2
def lay_mk {K : PySem.W.Frag} {h : Heap} {mg : Str → Option Value} (X : K.In h) (G : h.Ns mainGlobals mg)
    {t_MOST_FACES : Tok}
    {t_GREATEST_FACE : Tok}
    {t_MOST_DICE : Tok}
    {a_DiceError : Addr}
    {a_BadDie : Addr}
    {a_BadDice : Addr}
    {a_BadNumber : Addr}
    {a_BadCounts : Addr}
    {a_BadText : Addr}
    {o_is_number : Option Addr} {w_is_number : Option Addr} {q_is_number : Array (Option Value)} {i_is_number j_is_number u_is_number v_is_number r_is_number y_is_number : Value} {a_is_number : Addr}
    {o_is_face : Option Addr} {w_is_face : Option Addr} {q_is_face : Array (Option Value)} {i_is_face j_is_face u_is_face v_is_face r_is_face y_is_face : Value} {a_is_face : Addr}
    {o_is_die : Option Addr} {w_is_die : Option Addr} {q_is_die : Array (Option Value)} {i_is_die j_is_die u_is_die v_is_die r_is_die y_is_die : Value} {a_is_die : Addr}
    {o_need_dice : Option Addr} {w_need_dice : Option Addr} {q_need_dice : Array (Option Value)} {i_need_dice j_need_dice u_need_dice v_need_dice r_need_dice y_need_dice : Value} {a_need_dice : Addr}
    {o_share : Option Addr} {w_share : Option Addr} {q_share : Array (Option Value)} {i_share j_share u_share v_share r_share y_share : Value} {a_share : Addr}
    {o_counts : Option Addr} {w_counts : Option Addr} {q_counts : Array (Option Value)} {i_counts j_counts u_counts v_counts r_counts y_counts : Value} {a_counts : Addr}
    {o_ways_with : Option Addr} {w_ways_with : Option Addr} {q_ways_with : Array (Option Value)} {i_ways_with j_ways_with u_ways_with v_ways_with r_ways_with y_ways_with : Value} {a_ways_with : Addr}
    {o_at_least : Option Addr} {w_at_least : Option Addr} {q_at_least : Array (Option Value)} {i_at_least j_at_least u_at_least v_at_least r_at_least y_at_least : Value} {a_at_least : Addr}
    {o_law_draw : Option Addr} {w_law_draw : Option Addr} {q_law_draw : Array (Option Value)} {i_law_draw j_law_draw u_law_draw v_law_draw r_law_draw y_law_draw : Value} {a_law_draw : Addr}
    {o_law_word : Option Addr} {w_law_word : Option Addr} {q_law_word : Array (Option Value)} {i_law_word j_law_word u_law_word v_law_word r_law_word y_law_word : Value} {a_law_word : Addr}
    {o_law_whole : Option Addr} {w_law_whole : Option Addr} {q_law_whole : Array (Option Value)} {i_law_whole j_law_whole u_law_whole v_law_whole r_law_whole y_law_whole : Value} {a_law_whole : Addr}
    {o_law_die : Option Addr} {w_law_die : Option Addr} {q_law_die : Array (Option Value)} {i_law_die j_law_die u_law_die v_law_die r_law_die y_law_die : Value} {a_law_die : Addr}
    {o_law_share : Option Addr} {w_law_share : Option Addr} {q_law_share : Array (Option Value)} {i_law_share j_law_share u_law_share v_law_share r_law_share y_law_share : Value} {a_law_share : Addr}
    {o_law_is : Option Addr} {w_law_is : Option Addr} {q_law_is : Array (Option Value)} {i_law_is j_law_is u_law_is v_law_is r_law_is y_law_is : Value} {a_law_is : Addr}
    {o_law_throws : Option Addr} {w_law_throws : Option Addr} {q_law_throws : Array (Option Value)} {i_law_throws j_law_throws u_law_throws v_law_throws r_law_throws y_law_throws : Value} {a_law_throws : Addr}
    {o_law_refused : Option Addr} {w_law_refused : Option Addr} {q_law_refused : Array (Option Value)} {i_law_refused j_law_refused u_law_refused v_law_refused r_law_refused y_law_refused : Value} {a_law_refused : Addr}
    {o_law : Option Addr} {w_law : Option Addr} {q_law : Array (Option Value)} {i_law j_law u_law v_law r_law y_law : Value} {a_law : Addr}
    (n_isinstance : PySem.W.nsIn K mainGlobals "isinstance" = some none)
    (n_int : PySem.W.nsIn K mainGlobals "int" = some none)
    (n_bool : PySem.W.nsIn K mainGlobals "bool" = some none)
    (n_list : PySem.W.nsIn K mainGlobals "list" = some none)
    (n_len : PySem.W.nsIn K mainGlobals "len" = some none)
    (n_all : PySem.W.nsIn K mainGlobals "all" = some none)
    (n_sorted : PySem.W.nsIn K mainGlobals "sorted" = some none)
    (n_sum : PySem.W.nsIn K mainGlobals "sum" = some none)
    (n_ValueError : PySem.W.nsIn K mainGlobals "ValueError" = some none)
    (n_range : PySem.W.nsIn K mainGlobals "range" = some none)
    (n_max : PySem.W.nsIn K mainGlobals "max" = some none)
    (n_min : PySem.W.nsIn K mainGlobals "min" = some none)
    (n_tuple : PySem.W.nsIn K mainGlobals "tuple" = some none)
    (m_gcd : PySem.W.nsIn K mainGlobals "gcd" = some (some (.builtin "math.gcd")))
    (c_MOST_FACES : PySem.W.nsIn K mainGlobals "MOST_FACES" = some (some (.int 8 t_MOST_FACES)))
    (c_GREATEST_FACE : PySem.W.nsIn K mainGlobals "GREATEST_FACE" = some (some (.int 99 t_GREATEST_FACE)))
    (c_MOST_DICE : PySem.W.nsIn K mainGlobals "MOST_DICE" = some (some (.int 4 t_MOST_DICE)))
    (hn : PySem.W.specialIn K (.builtin "object.__class__") "__get__" = some (some (.builtin "getset_descriptor.__get__")))
    (ht : PySem.W.takesIn K (.builtin "object.__class__") = some true)
    (g_DiceError : PySem.W.nsIn K mainGlobals "DiceError" = some (some (.ref a_DiceError)))
    (x_DiceError : PySem.W.excIn K a_DiceError [.type "ValueError", .type "Exception", .type "BaseException", .type "object"] "ValueError.__new__" = true)
    (k_DiceError : PySem.W.keepIn K (.ref a_DiceError) = true)
    (b_DiceError : PySem.W.subIn K (.ref a_DiceError) (.type "BaseException") = some true)
    (t_DiceError : PySem.W.typeIn K (.ref a_DiceError) = some (.type "type"))
    (hg_DiceError : PySem.W.findIn K (.ref a_DiceError) "__getattribute__" = some (some (.builtin "BaseException.__getattribute__")))
    (hk_DiceError : PySem.W.findIn K (.ref a_DiceError) "__getattr__" = some none)
    (hd_DiceError : PySem.W.hasDictIn K a_DiceError = true)
    (ha_DiceError : PySem.W.findIn K (.ref a_DiceError) "__class__" = some (some (.builtin "object.__class__")))
    (hm_DiceError : PySem.W.mroIn K a_DiceError (.type "object") = some true)
    (g_BadDie : PySem.W.nsIn K mainGlobals "BadDie" = some (some (.ref a_BadDie)))
    (x_BadDie : PySem.W.excIn K a_BadDie [.type "ValueError", .type "Exception", .type "BaseException", .type "object"] "ValueError.__new__" = true)
    (k_BadDie : PySem.W.keepIn K (.ref a_BadDie) = true)
    (b_BadDie : PySem.W.subIn K (.ref a_BadDie) (.type "BaseException") = some true)
    (t_BadDie : PySem.W.typeIn K (.ref a_BadDie) = some (.type "type"))
    (hg_BadDie : PySem.W.findIn K (.ref a_BadDie) "__getattribute__" = some (some (.builtin "BaseException.__getattribute__")))
    (hk_BadDie : PySem.W.findIn K (.ref a_BadDie) "__getattr__" = some none)
    (hd_BadDie : PySem.W.hasDictIn K a_BadDie = true)
    (ha_BadDie : PySem.W.findIn K (.ref a_BadDie) "__class__" = some (some (.builtin "object.__class__")))
    (hm_BadDie : PySem.W.mroIn K a_BadDie (.type "object") = some true)
    (g_BadDice : PySem.W.nsIn K mainGlobals "BadDice" = some (some (.ref a_BadDice)))
    (x_BadDice : PySem.W.excIn K a_BadDice [.type "ValueError", .type "Exception", .type "BaseException", .type "object"] "ValueError.__new__" = true)
    (k_BadDice : PySem.W.keepIn K (.ref a_BadDice) = true)
    (b_BadDice : PySem.W.subIn K (.ref a_BadDice) (.type "BaseException") = some true)
    (t_BadDice : PySem.W.typeIn K (.ref a_BadDice) = some (.type "type"))
    (hg_BadDice : PySem.W.findIn K (.ref a_BadDice) "__getattribute__" = some (some (.builtin "BaseException.__getattribute__")))
    (hk_BadDice : PySem.W.findIn K (.ref a_BadDice) "__getattr__" = some none)
    (hd_BadDice : PySem.W.hasDictIn K a_BadDice = true)
    (ha_BadDice : PySem.W.findIn K (.ref a_BadDice) "__class__" = some (some (.builtin "object.__class__")))
    (hm_BadDice : PySem.W.mroIn K a_BadDice (.type "object") = some true)
    (g_BadNumber : PySem.W.nsIn K mainGlobals "BadNumber" = some (some (.ref a_BadNumber)))
    (x_BadNumber : PySem.W.excIn K a_BadNumber [.type "ValueError", .type "Exception", .type "BaseException", .type "object"] "ValueError.__new__" = true)
    (k_BadNumber : PySem.W.keepIn K (.ref a_BadNumber) = true)
    (b_BadNumber : PySem.W.subIn K (.ref a_BadNumber) (.type "BaseException") = some true)
    (t_BadNumber : PySem.W.typeIn K (.ref a_BadNumber) = some (.type "type"))
    (hg_BadNumber : PySem.W.findIn K (.ref a_BadNumber) "__getattribute__" = some (some (.builtin "BaseException.__getattribute__")))
    (hk_BadNumber : PySem.W.findIn K (.ref a_BadNumber) "__getattr__" = some none)
    (hd_BadNumber : PySem.W.hasDictIn K a_BadNumber = true)
    (ha_BadNumber : PySem.W.findIn K (.ref a_BadNumber) "__class__" = some (some (.builtin "object.__class__")))
    (hm_BadNumber : PySem.W.mroIn K a_BadNumber (.type "object") = some true)
    (g_BadCounts : PySem.W.nsIn K mainGlobals "BadCounts" = some (some (.ref a_BadCounts)))
    (x_BadCounts : PySem.W.excIn K a_BadCounts [.type "ValueError", .type "Exception", .type "BaseException", .type "object"] "ValueError.__new__" = true)
    (k_BadCounts : PySem.W.keepIn K (.ref a_BadCounts) = true)
    (b_BadCounts : PySem.W.subIn K (.ref a_BadCounts) (.type "BaseException") = some true)
    (t_BadCounts : PySem.W.typeIn K (.ref a_BadCounts) = some (.type "type"))
    (hg_BadCounts : PySem.W.findIn K (.ref a_BadCounts) "__getattribute__" = some (some (.builtin "BaseException.__getattribute__")))
    (hk_BadCounts : PySem.W.findIn K (.ref a_BadCounts) "__getattr__" = some none)
    (hd_BadCounts : PySem.W.hasDictIn K a_BadCounts = true)
    (ha_BadCounts : PySem.W.findIn K (.ref a_BadCounts) "__class__" = some (some (.builtin "object.__class__")))
    (hm_BadCounts : PySem.W.mroIn K a_BadCounts (.type "object") = some true)
    (g_BadText : PySem.W.nsIn K mainGlobals "BadText" = some (some (.ref a_BadText)))
    (x_BadText : PySem.W.excIn K a_BadText [.type "ValueError", .type "Exception", .type "BaseException", .type "object"] "ValueError.__new__" = true)
    (k_BadText : PySem.W.keepIn K (.ref a_BadText) = true)
    (b_BadText : PySem.W.subIn K (.ref a_BadText) (.type "BaseException") = some true)
    (t_BadText : PySem.W.typeIn K (.ref a_BadText) = some (.type "type"))
    (hg_BadText : PySem.W.findIn K (.ref a_BadText) "__getattribute__" = some (some (.builtin "BaseException.__getattribute__")))
    (hk_BadText : PySem.W.findIn K (.ref a_BadText) "__getattr__" = some none)
    (hd_BadText : PySem.W.hasDictIn K a_BadText = true)
    (ha_BadText : PySem.W.findIn K (.ref a_BadText) "__class__" = some (some (.builtin "object.__class__")))
    (hm_BadText : PySem.W.mroIn K a_BadText (.type "object") = some true)
    (s_BadDice_DiceError : PySem.W.kitOne K (.ref a_BadDice) (.ref a_DiceError) = some true)
    (e_BadDice_DiceError : PySem.W.subIn K (.ref a_BadDice) (.ref a_DiceError) = some true)
    (s_BadDice_BadDie : PySem.W.kitOne K (.ref a_BadDice) (.ref a_BadDie) = some false)
    (e_BadDice_BadDie : PySem.W.subIn K (.ref a_BadDice) (.ref a_BadDie) = some false)
    (s_BadDice_BadDice : PySem.W.kitOne K (.ref a_BadDice) (.ref a_BadDice) = some true)
    (e_BadDice_BadDice : PySem.W.subIn K (.ref a_BadDice) (.ref a_BadDice) = some true)
    (s_BadDice_BadNumber : PySem.W.kitOne K (.ref a_BadDice) (.ref a_BadNumber) = some false)
    (e_BadDice_BadNumber : PySem.W.subIn K (.ref a_BadDice) (.ref a_BadNumber) = some false)
    (s_BadDice_BadCounts : PySem.W.kitOne K (.ref a_BadDice) (.ref a_BadCounts) = some false)
    (e_BadDice_BadCounts : PySem.W.subIn K (.ref a_BadDice) (.ref a_BadCounts) = some false)
    (s_BadDice_BadText : PySem.W.kitOne K (.ref a_BadDice) (.ref a_BadText) = some false)
    (e_BadDice_BadText : PySem.W.subIn K (.ref a_BadDice) (.ref a_BadText) = some false)
    (s_BadNumber_DiceError : PySem.W.kitOne K (.ref a_BadNumber) (.ref a_DiceError) = some true)
    (e_BadNumber_DiceError : PySem.W.subIn K (.ref a_BadNumber) (.ref a_DiceError) = some true)
    (s_BadNumber_BadDie : PySem.W.kitOne K (.ref a_BadNumber) (.ref a_BadDie) = some false)
    (e_BadNumber_BadDie : PySem.W.subIn K (.ref a_BadNumber) (.ref a_BadDie) = some false)
    (s_BadNumber_BadDice : PySem.W.kitOne K (.ref a_BadNumber) (.ref a_BadDice) = some false)
    (e_BadNumber_BadDice : PySem.W.subIn K (.ref a_BadNumber) (.ref a_BadDice) = some false)
    (s_BadNumber_BadNumber : PySem.W.kitOne K (.ref a_BadNumber) (.ref a_BadNumber) = some true)
    (e_BadNumber_BadNumber : PySem.W.subIn K (.ref a_BadNumber) (.ref a_BadNumber) = some true)
    (s_BadNumber_BadCounts : PySem.W.kitOne K (.ref a_BadNumber) (.ref a_BadCounts) = some false)
    (e_BadNumber_BadCounts : PySem.W.subIn K (.ref a_BadNumber) (.ref a_BadCounts) = some false)
    (s_BadNumber_BadText : PySem.W.kitOne K (.ref a_BadNumber) (.ref a_BadText) = some false)
    (e_BadNumber_BadText : PySem.W.subIn K (.ref a_BadNumber) (.ref a_BadText) = some false)
    (z_DiceError : PySem.W.kitOne K (.type "NoneType") (.ref a_DiceError) = some false)
    (v_DiceError : PySem.W.kitOne K (.ref a_DiceError) (.type "ValueError") = some true)
    (z_BadDie : PySem.W.kitOne K (.type "NoneType") (.ref a_BadDie) = some false)
    (v_BadDie : PySem.W.kitOne K (.ref a_BadDie) (.type "ValueError") = some true)
    (z_BadDice : PySem.W.kitOne K (.type "NoneType") (.ref a_BadDice) = some false)
    (v_BadDice : PySem.W.kitOne K (.ref a_BadDice) (.type "ValueError") = some true)
    (z_BadNumber : PySem.W.kitOne K (.type "NoneType") (.ref a_BadNumber) = some false)
    (v_BadNumber : PySem.W.kitOne K (.ref a_BadNumber) (.type "ValueError") = some true)
    (z_BadCounts : PySem.W.kitOne K (.type "NoneType") (.ref a_BadCounts) = some false)
    (v_BadCounts : PySem.W.kitOne K (.ref a_BadCounts) (.type "ValueError") = some true)
    (z_BadText : PySem.W.kitOne K (.type "NoneType") (.ref a_BadText) = some false)
    (v_BadText : PySem.W.kitOne K (.ref a_BadText) (.type "ValueError") = some true)
    (g_is_number : PySem.W.nsIn K mainGlobals "is_number" = some (some (.ref a_is_number)))
    (l_is_number : K.lookup a_is_number = some ⟨i_is_number, o_is_number, .func (PySem.W.fnOf "is_number" "is_number" (defArgs st_is_number) (defBody st_is_number) (defScope st_is_number) .none j_is_number u_is_number v_is_number w_is_number r_is_number y_is_number), q_is_number⟩)
    (p_is_number : PySem.W.codeIn K r_is_number "is_number" = true)
    (k_is_number : PySem.W.keepIn K (.ref a_is_number) = true)
    (g_is_face : PySem.W.nsIn K mainGlobals "is_face" = some (some (.ref a_is_face)))
    (l_is_face : K.lookup a_is_face = some ⟨i_is_face, o_is_face, .func (PySem.W.fnOf "is_face" "is_face" (defArgs st_is_face) (defBody st_is_face) (defScope st_is_face) .none j_is_face u_is_face v_is_face w_is_face r_is_face y_is_face), q_is_face⟩)
    (p_is_face : PySem.W.codeIn K r_is_face "is_face" = true)
    (k_is_face : PySem.W.keepIn K (.ref a_is_face) = true)
    (g_is_die : PySem.W.nsIn K mainGlobals "is_die" = some (some (.ref a_is_die)))
    (l_is_die : K.lookup a_is_die = some ⟨i_is_die, o_is_die, .func (PySem.W.fnOf "is_die" "is_die" (defArgs st_is_die) (defBody st_is_die) (defScope st_is_die) .none j_is_die u_is_die v_is_die w_is_die r_is_die y_is_die), q_is_die⟩)
    (p_is_die : PySem.W.codeIn K r_is_die "is_die" = true)
    (k_is_die : PySem.W.keepIn K (.ref a_is_die) = true)
    (g_need_dice : PySem.W.nsIn K mainGlobals "need_dice" = some (some (.ref a_need_dice)))
    (l_need_dice : K.lookup a_need_dice = some ⟨i_need_dice, o_need_dice, .func (PySem.W.fnOf "need_dice" "need_dice" (defArgs st_need_dice) (defBody st_need_dice) (defScope st_need_dice) .none j_need_dice u_need_dice v_need_dice w_need_dice r_need_dice y_need_dice), q_need_dice⟩)
    (p_need_dice : PySem.W.codeIn K r_need_dice "need_dice" = true)
    (k_need_dice : PySem.W.keepIn K (.ref a_need_dice) = true)
    (g_share : PySem.W.nsIn K mainGlobals "share" = some (some (.ref a_share)))
    (l_share : K.lookup a_share = some ⟨i_share, o_share, .func (PySem.W.fnOf "share" "share" (defArgs st_share) (defBody st_share) (defScope st_share) .none j_share u_share v_share w_share r_share y_share), q_share⟩)
    (p_share : PySem.W.codeIn K r_share "share" = true)
    (k_share : PySem.W.keepIn K (.ref a_share) = true)
    (g_counts : PySem.W.nsIn K mainGlobals "counts" = some (some (.ref a_counts)))
    (l_counts : K.lookup a_counts = some ⟨i_counts, o_counts, .func (PySem.W.fnOf "counts" "counts" (defArgs st_counts) (defBody st_counts) (defScope st_counts) .none j_counts u_counts v_counts w_counts r_counts y_counts), q_counts⟩)
    (p_counts : PySem.W.codeIn K r_counts "counts" = true)
    (k_counts : PySem.W.keepIn K (.ref a_counts) = true)
    (g_ways_with : PySem.W.nsIn K mainGlobals "ways_with" = some (some (.ref a_ways_with)))
    (l_ways_with : K.lookup a_ways_with = some ⟨i_ways_with, o_ways_with, .func (PySem.W.fnOf "ways_with" "ways_with" (defArgs st_ways_with) (defBody st_ways_with) (defScope st_ways_with) .none j_ways_with u_ways_with v_ways_with w_ways_with r_ways_with y_ways_with), q_ways_with⟩)
    (p_ways_with : PySem.W.codeIn K r_ways_with "ways_with" = true)
    (k_ways_with : PySem.W.keepIn K (.ref a_ways_with) = true)
    (g_at_least : PySem.W.nsIn K mainGlobals "at_least" = some (some (.ref a_at_least)))
    (l_at_least : K.lookup a_at_least = some ⟨i_at_least, o_at_least, .func (PySem.W.fnOf "at_least" "at_least" (defArgs st_at_least) (defBody st_at_least) (defScope st_at_least) .none j_at_least u_at_least v_at_least w_at_least r_at_least y_at_least), q_at_least⟩)
    (p_at_least : PySem.W.codeIn K r_at_least "at_least" = true)
    (k_at_least : PySem.W.keepIn K (.ref a_at_least) = true)
    (g_law_draw : PySem.W.nsIn K mainGlobals "_law_draw" = some (some (.ref a_law_draw)))
    (l_law_draw : K.lookup a_law_draw = some ⟨i_law_draw, o_law_draw, .func (PySem.W.fnOf "_law_draw" "_law_draw" (defArgs st_law_draw) (defBody st_law_draw) (defScope st_law_draw) .none j_law_draw u_law_draw v_law_draw w_law_draw r_law_draw y_law_draw), q_law_draw⟩)
    (p_law_draw : PySem.W.codeIn K r_law_draw "_law_draw" = true)
    (k_law_draw : PySem.W.keepIn K (.ref a_law_draw) = true)
    (g_law_word : PySem.W.nsIn K mainGlobals "_law_word" = some (some (.ref a_law_word)))
    (l_law_word : K.lookup a_law_word = some ⟨i_law_word, o_law_word, .func (PySem.W.fnOf "_law_word" "_law_word" (defArgs st_law_word) (defBody st_law_word) (defScope st_law_word) .none j_law_word u_law_word v_law_word w_law_word r_law_word y_law_word), q_law_word⟩)
    (p_law_word : PySem.W.codeIn K r_law_word "_law_word" = true)
    (k_law_word : PySem.W.keepIn K (.ref a_law_word) = true)
    (g_law_whole : PySem.W.nsIn K mainGlobals "_law_whole" = some (some (.ref a_law_whole)))
    (l_law_whole : K.lookup a_law_whole = some ⟨i_law_whole, o_law_whole, .func (PySem.W.fnOf "_law_whole" "_law_whole" (defArgs st_law_whole) (defBody st_law_whole) (defScope st_law_whole) .none j_law_whole u_law_whole v_law_whole w_law_whole r_law_whole y_law_whole), q_law_whole⟩)
    (p_law_whole : PySem.W.codeIn K r_law_whole "_law_whole" = true)
    (k_law_whole : PySem.W.keepIn K (.ref a_law_whole) = true)
    (g_law_die : PySem.W.nsIn K mainGlobals "_law_die" = some (some (.ref a_law_die)))
    (l_law_die : K.lookup a_law_die = some ⟨i_law_die, o_law_die, .func (PySem.W.fnOf "_law_die" "_law_die" (defArgs st_law_die) (defBody st_law_die) (defScope st_law_die) .none j_law_die u_law_die v_law_die w_law_die r_law_die y_law_die), q_law_die⟩)
    (p_law_die : PySem.W.codeIn K r_law_die "_law_die" = true)
    (k_law_die : PySem.W.keepIn K (.ref a_law_die) = true)
    (g_law_share : PySem.W.nsIn K mainGlobals "_law_share" = some (some (.ref a_law_share)))
    (l_law_share : K.lookup a_law_share = some ⟨i_law_share, o_law_share, .func (PySem.W.fnOf "_law_share" "_law_share" (defArgs st_law_share) (defBody st_law_share) (defScope st_law_share) .none j_law_share u_law_share v_law_share w_law_share r_law_share y_law_share), q_law_share⟩)
    (p_law_share : PySem.W.codeIn K r_law_share "_law_share" = true)
    (k_law_share : PySem.W.keepIn K (.ref a_law_share) = true)
    (g_law_is : PySem.W.nsIn K mainGlobals "_law_is" = some (some (.ref a_law_is)))
    (l_law_is : K.lookup a_law_is = some ⟨i_law_is, o_law_is, .func (PySem.W.fnOf "_law_is" "_law_is" (defArgs st_law_is) (defBody st_law_is) (defScope st_law_is) .none j_law_is u_law_is v_law_is w_law_is r_law_is y_law_is), q_law_is⟩)
    (p_law_is : PySem.W.codeIn K r_law_is "_law_is" = true)
    (k_law_is : PySem.W.keepIn K (.ref a_law_is) = true)
    (g_law_throws : PySem.W.nsIn K mainGlobals "_law_throws" = some (some (.ref a_law_throws)))
    (l_law_throws : K.lookup a_law_throws = some ⟨i_law_throws, o_law_throws, .func (PySem.W.fnOf "_law_throws" "_law_throws" (defArgs st_law_throws) (defBody st_law_throws) (defScope st_law_throws) .none j_law_throws u_law_throws v_law_throws w_law_throws r_law_throws y_law_throws), q_law_throws⟩)
    (p_law_throws : PySem.W.codeIn K r_law_throws "_law_throws" = true)
    (k_law_throws : PySem.W.keepIn K (.ref a_law_throws) = true)
    (g_law_refused : PySem.W.nsIn K mainGlobals "_law_refused" = some (some (.ref a_law_refused)))
    (l_law_refused : K.lookup a_law_refused = some ⟨i_law_refused, o_law_refused, .func (PySem.W.fnOf "_law_refused" "_law_refused" (defArgs st_law_refused) (defBody st_law_refused) (defScope st_law_refused) .none j_law_refused u_law_refused v_law_refused w_law_refused r_law_refused y_law_refused), q_law_refused⟩)
    (p_law_refused : PySem.W.codeIn K r_law_refused "_law_refused" = true)
    (k_law_refused : PySem.W.keepIn K (.ref a_law_refused) = true)
    (g_law : PySem.W.nsIn K mainGlobals "law" = some (some (.ref a_law)))
    (l_law : K.lookup a_law = some ⟨i_law, o_law, .func (PySem.W.fnOf "law" "law" (defArgs st_law) (defBody st_law) (defScope st_law) .none j_law u_law v_law w_law r_law y_law), q_law⟩)
    (p_law : PySem.W.codeIn K r_law "law" = true)
    (k_law : PySem.W.keepIn K (.ref a_law) = true) : Lay K mg :=
  { n_isinstance := PySem.W.mg_none_of X G n_isinstance,
    n_int := PySem.W.mg_none_of X G n_int,
    n_bool := PySem.W.mg_none_of X G n_bool,
    n_list := PySem.W.mg_none_of X G n_list,
    n_len := PySem.W.mg_none_of X G n_len,
    n_all := PySem.W.mg_none_of X G n_all,
    n_sorted := PySem.W.mg_none_of X G n_sorted,
    n_sum := PySem.W.mg_none_of X G n_sum,
    n_ValueError := PySem.W.mg_none_of X G n_ValueError,
    n_range := PySem.W.mg_none_of X G n_range,
    n_max := PySem.W.mg_none_of X G n_max,
    n_min := PySem.W.mg_none_of X G n_min,
    n_tuple := PySem.W.mg_none_of X G n_tuple,
    m_gcd := PySem.W.mg_of X G m_gcd,
    t_MOST_FACES := _, c_MOST_FACES := PySem.W.mg_of X G c_MOST_FACES,
    t_GREATEST_FACE := _, c_GREATEST_FACE := PySem.W.mg_of X G c_GREATEST_FACE,
    t_MOST_DICE := _, c_MOST_DICE := PySem.W.mg_of X G c_MOST_DICE,
    a_DiceError := _, g_DiceError := PySem.W.mg_of X G g_DiceError, x_DiceError := { x := x_DiceError, k := k_DiceError, b := b_DiceError, t := t_DiceError, c := { hg := hg_DiceError, hk := hk_DiceError, hs := b_DiceError, hd := hd_DiceError, ha := ha_DiceError, hn := hn, ht := ht, hm := hm_DiceError } },
    a_BadDie := _, g_BadDie := PySem.W.mg_of X G g_BadDie, x_BadDie := { x := x_BadDie, k := k_BadDie, b := b_BadDie, t := t_BadDie, c := { hg := hg_BadDie, hk := hk_BadDie, hs := b_BadDie, hd := hd_BadDie, ha := ha_BadDie, hn := hn, ht := ht, hm := hm_BadDie } },
    a_BadDice := _, g_BadDice := PySem.W.mg_of X G g_BadDice, x_BadDice := { x := x_BadDice, k := k_BadDice, b := b_BadDice, t := t_BadDice, c := { hg := hg_BadDice, hk := hk_BadDice, hs := b_BadDice, hd := hd_BadDice, ha := ha_BadDice, hn := hn, ht := ht, hm := hm_BadDice } },
    a_BadNumber := _, g_BadNumber := PySem.W.mg_of X G g_BadNumber, x_BadNumber := { x := x_BadNumber, k := k_BadNumber, b := b_BadNumber, t := t_BadNumber, c := { hg := hg_BadNumber, hk := hk_BadNumber, hs := b_BadNumber, hd := hd_BadNumber, ha := ha_BadNumber, hn := hn, ht := ht, hm := hm_BadNumber } },
    a_BadCounts := _, g_BadCounts := PySem.W.mg_of X G g_BadCounts, x_BadCounts := { x := x_BadCounts, k := k_BadCounts, b := b_BadCounts, t := t_BadCounts, c := { hg := hg_BadCounts, hk := hk_BadCounts, hs := b_BadCounts, hd := hd_BadCounts, ha := ha_BadCounts, hn := hn, ht := ht, hm := hm_BadCounts } },
    a_BadText := _, g_BadText := PySem.W.mg_of X G g_BadText, x_BadText := { x := x_BadText, k := k_BadText, b := b_BadText, t := t_BadText, c := { hg := hg_BadText, hk := hk_BadText, hs := b_BadText, hd := hd_BadText, ha := ha_BadText, hn := hn, ht := ht, hm := hm_BadText } },
    s_BadDice_DiceError := s_BadDice_DiceError, e_BadDice_DiceError := e_BadDice_DiceError,
    s_BadDice_BadDie := s_BadDice_BadDie, e_BadDice_BadDie := e_BadDice_BadDie,
    s_BadDice_BadDice := s_BadDice_BadDice, e_BadDice_BadDice := e_BadDice_BadDice,
    s_BadDice_BadNumber := s_BadDice_BadNumber, e_BadDice_BadNumber := e_BadDice_BadNumber,
    s_BadDice_BadCounts := s_BadDice_BadCounts, e_BadDice_BadCounts := e_BadDice_BadCounts,
    s_BadDice_BadText := s_BadDice_BadText, e_BadDice_BadText := e_BadDice_BadText,
    s_BadNumber_DiceError := s_BadNumber_DiceError, e_BadNumber_DiceError := e_BadNumber_DiceError,
    s_BadNumber_BadDie := s_BadNumber_BadDie, e_BadNumber_BadDie := e_BadNumber_BadDie,
    s_BadNumber_BadDice := s_BadNumber_BadDice, e_BadNumber_BadDice := e_BadNumber_BadDice,
    s_BadNumber_BadNumber := s_BadNumber_BadNumber, e_BadNumber_BadNumber := e_BadNumber_BadNumber,
    s_BadNumber_BadCounts := s_BadNumber_BadCounts, e_BadNumber_BadCounts := e_BadNumber_BadCounts,
    s_BadNumber_BadText := s_BadNumber_BadText, e_BadNumber_BadText := e_BadNumber_BadText,
    z_DiceError := z_DiceError,
    v_DiceError := v_DiceError,
    z_BadDie := z_BadDie,
    v_BadDie := v_BadDie,
    z_BadDice := z_BadDice,
    v_BadDice := v_BadDice,
    z_BadNumber := z_BadNumber,
    v_BadNumber := v_BadNumber,
    z_BadCounts := z_BadCounts,
    v_BadCounts := v_BadCounts,
    z_BadText := z_BadText,
    v_BadText := v_BadText,
    a_is_number := _, d_is_number := _, g_is_number := PySem.W.mg_of X G g_is_number, f_is_number := fun_mk (st := st_is_number) l_is_number p_is_number k_is_number, b_is_number := (fun_mk (st := st_is_number) l_is_number p_is_number k_is_number).binds (ps := ["thing"]) fun _ _ _ _ _ _ us hl => match us, hl with | [_], _ => rfl,
    a_is_face := _, d_is_face := _, g_is_face := PySem.W.mg_of X G g_is_face, f_is_face := fun_mk (st := st_is_face) l_is_face p_is_face k_is_face, b_is_face := (fun_mk (st := st_is_face) l_is_face p_is_face k_is_face).binds (ps := ["thing"]) fun _ _ _ _ _ _ us hl => match us, hl with | [_], _ => rfl,
    a_is_die := _, d_is_die := _, g_is_die := PySem.W.mg_of X G g_is_die, f_is_die := fun_mk (st := st_is_die) l_is_die p_is_die k_is_die, b_is_die := (fun_mk (st := st_is_die) l_is_die p_is_die k_is_die).binds (ps := ["thing"]) fun _ _ _ _ _ _ us hl => match us, hl with | [_], _ => rfl,
    a_need_dice := _, d_need_dice := _, g_need_dice := PySem.W.mg_of X G g_need_dice, f_need_dice := fun_mk (st := st_need_dice) l_need_dice p_need_dice k_need_dice, b_need_dice := (fun_mk (st := st_need_dice) l_need_dice p_need_dice k_need_dice).binds (ps := ["thing", "most"]) fun _ _ _ _ _ _ us hl => match us, hl with | [_, _], _ => rfl,
    a_share := _, d_share := _, g_share := PySem.W.mg_of X G g_share, f_share := fun_mk (st := st_share) l_share p_share k_share, b_share := (fun_mk (st := st_share) l_share p_share k_share).binds (ps := ["n", "d"]) fun _ _ _ _ _ _ us hl => match us, hl with | [_, _], _ => rfl,
    a_counts := _, d_counts := _, g_counts := PySem.W.mg_of X G g_counts, f_counts := fun_mk (st := st_counts) l_counts p_counts k_counts, b_counts := (fun_mk (st := st_counts) l_counts p_counts k_counts).binds (ps := ["dice"]) fun _ _ _ _ _ _ us hl => match us, hl with | [_], _ => rfl,
    a_ways_with := _, d_ways_with := _, g_ways_with := PySem.W.mg_of X G g_ways_with, f_ways_with := fun_mk (st := st_ways_with) l_ways_with p_ways_with k_ways_with, b_ways_with := (fun_mk (st := st_ways_with) l_ways_with p_ways_with k_ways_with).binds (ps := ["ways", "die"]) fun _ _ _ _ _ _ us hl => match us, hl with | [_, _], _ => rfl,
    a_at_least := _, d_at_least := _, g_at_least := PySem.W.mg_of X G g_at_least, f_at_least := fun_mk (st := st_at_least) l_at_least p_at_least k_at_least, b_at_least := (fun_mk (st := st_at_least) l_at_least p_at_least k_at_least).binds (ps := ["dice", "bound"]) fun _ _ _ _ _ _ us hl => match us, hl with | [_, _], _ => rfl,
    a_law_draw := _, d_law_draw := _, g_law_draw := PySem.W.mg_of X G g_law_draw, f_law_draw := fun_mk (st := st_law_draw) l_law_draw p_law_draw k_law_draw, b_law_draw := (fun_mk (st := st_law_draw) l_law_draw p_law_draw k_law_draw).binds (ps := ["_law_script", "_law_k"]) fun _ _ _ _ _ _ us hl => match us, hl with | [_, _], _ => rfl,
    a_law_word := _, d_law_word := _, g_law_word := PySem.W.mg_of X G g_law_word, f_law_word := fun_mk (st := st_law_word) l_law_word p_law_word k_law_word, b_law_word := (fun_mk (st := st_law_word) l_law_word p_law_word k_law_word).binds (ps := ["_law_e"]) fun _ _ _ _ _ _ us hl => match us, hl with | [_], _ => rfl,
    a_law_whole := _, d_law_whole := _, g_law_whole := PySem.W.mg_of X G g_law_whole, f_law_whole := fun_mk (st := st_law_whole) l_law_whole p_law_whole k_law_whole, b_law_whole := (fun_mk (st := st_law_whole) l_law_whole p_law_whole k_law_whole).binds (ps := ["_law_found"]) fun _ _ _ _ _ _ us hl => match us, hl with | [_], _ => rfl,
    a_law_die := _, d_law_die := _, g_law_die := PySem.W.mg_of X G g_law_die, f_law_die := fun_mk (st := st_law_die) l_law_die p_law_die k_law_die, b_law_die := (fun_mk (st := st_law_die) l_law_die p_law_die k_law_die).binds (ps := ["_law_script", "_law_k", "_law_most", "_law_top"]) fun _ _ _ _ _ _ us hl => match us, hl with | [_, _, _, _], _ => rfl,
    a_law_share := _, d_law_share := _, g_law_share := PySem.W.mg_of X G g_law_share, f_law_share := fun_mk (st := st_law_share) l_law_share p_law_share k_law_share, b_law_share := (fun_mk (st := st_law_share) l_law_share p_law_share k_law_share).binds (ps := ["_law_n", "_law_d"]) fun _ _ _ _ _ _ us hl => match us, hl with | [_, _], _ => rfl,
    a_law_is := _, d_law_is := _, g_law_is := PySem.W.mg_of X G g_law_is, f_law_is := fun_mk (st := st_law_is) l_law_is p_law_is k_law_is, b_law_is := (fun_mk (st := st_law_is) l_law_is p_law_is k_law_is).binds (ps := ["_law_found", "_law_due"]) fun _ _ _ _ _ _ us hl => match us, hl with | [_, _], _ => rfl,
    a_law_throws := _, d_law_throws := _, g_law_throws := PySem.W.mg_of X G g_law_throws, f_law_throws := fun_mk (st := st_law_throws) l_law_throws p_law_throws k_law_throws, b_law_throws := (fun_mk (st := st_law_throws) l_law_throws p_law_throws k_law_throws).binds (ps := ["_law_dice"]) fun _ _ _ _ _ _ us hl => match us, hl with | [_], _ => rfl,
    a_law_refused := _, d_law_refused := _, g_law_refused := PySem.W.mg_of X G g_law_refused, f_law_refused := fun_mk (st := st_law_refused) l_law_refused p_law_refused k_law_refused, b_law_refused := (fun_mk (st := st_law_refused) l_law_refused p_law_refused k_law_refused).binds (ps := ["_law_way", "_law_dice", "_law_bound"]) fun _ _ _ _ _ _ us hl => match us, hl with | [_, _, _], _ => rfl,
    a_law := _, d_law := _, g_law := PySem.W.mg_of X G g_law, f_law := fun_mk (st := st_law) l_law p_law k_law, b_law := (fun_mk (st := st_law) l_law p_law k_law).binds (ps := ["_law_script"]) fun _ _ _ _ _ _ us hl => match us, hl with | [_], _ => rfl }
theorem all_mk {l : PySem.W.OpenLaw} {w : World} {K : PySem.W.Frag} {h : Heap} {mg : Str → Option Value} {fa : Addr} (X : K.In h) (G : h.Ns mainGlobals mg) (hfa : mg "law" = some (.ref fa))
    {t_MOST_FACES : Tok}
    {t_GREATEST_FACE : Tok}
    {t_MOST_DICE : Tok}
    {a_DiceError : Addr}
    {a_BadDie : Addr}
    {a_BadDice : Addr}
    {a_BadNumber : Addr}
    {a_BadCounts : Addr}
    {a_BadText : Addr}
    {o_is_number : Option Addr} {w_is_number : Option Addr} {q_is_number : Array (Option Value)} {i_is_number j_is_number u_is_number v_is_number r_is_number y_is_number : Value} {a_is_number : Addr}
    {o_is_face : Option Addr} {w_is_face : Option Addr} {q_is_face : Array (Option Value)} {i_is_face j_is_face u_is_face v_is_face r_is_face y_is_face : Value} {a_is_face : Addr}
    {o_is_die : Option Addr} {w_is_die : Option Addr} {q_is_die : Array (Option Value)} {i_is_die j_is_die u_is_die v_is_die r_is_die y_is_die : Value} {a_is_die : Addr}
    {o_need_dice : Option Addr} {w_need_dice : Option Addr} {q_need_dice : Array (Option Value)} {i_need_dice j_need_dice u_need_dice v_need_dice r_need_dice y_need_dice : Value} {a_need_dice : Addr}
    {o_share : Option Addr} {w_share : Option Addr} {q_share : Array (Option Value)} {i_share j_share u_share v_share r_share y_share : Value} {a_share : Addr}
    {o_counts : Option Addr} {w_counts : Option Addr} {q_counts : Array (Option Value)} {i_counts j_counts u_counts v_counts r_counts y_counts : Value} {a_counts : Addr}
    {o_ways_with : Option Addr} {w_ways_with : Option Addr} {q_ways_with : Array (Option Value)} {i_ways_with j_ways_with u_ways_with v_ways_with r_ways_with y_ways_with : Value} {a_ways_with : Addr}
    {o_at_least : Option Addr} {w_at_least : Option Addr} {q_at_least : Array (Option Value)} {i_at_least j_at_least u_at_least v_at_least r_at_least y_at_least : Value} {a_at_least : Addr}
    {o_law_draw : Option Addr} {w_law_draw : Option Addr} {q_law_draw : Array (Option Value)} {i_law_draw j_law_draw u_law_draw v_law_draw r_law_draw y_law_draw : Value} {a_law_draw : Addr}
    {o_law_word : Option Addr} {w_law_word : Option Addr} {q_law_word : Array (Option Value)} {i_law_word j_law_word u_law_word v_law_word r_law_word y_law_word : Value} {a_law_word : Addr}
    {o_law_whole : Option Addr} {w_law_whole : Option Addr} {q_law_whole : Array (Option Value)} {i_law_whole j_law_whole u_law_whole v_law_whole r_law_whole y_law_whole : Value} {a_law_whole : Addr}
    {o_law_die : Option Addr} {w_law_die : Option Addr} {q_law_die : Array (Option Value)} {i_law_die j_law_die u_law_die v_law_die r_law_die y_law_die : Value} {a_law_die : Addr}
    {o_law_share : Option Addr} {w_law_share : Option Addr} {q_law_share : Array (Option Value)} {i_law_share j_law_share u_law_share v_law_share r_law_share y_law_share : Value} {a_law_share : Addr}
    {o_law_is : Option Addr} {w_law_is : Option Addr} {q_law_is : Array (Option Value)} {i_law_is j_law_is u_law_is v_law_is r_law_is y_law_is : Value} {a_law_is : Addr}
    {o_law_throws : Option Addr} {w_law_throws : Option Addr} {q_law_throws : Array (Option Value)} {i_law_throws j_law_throws u_law_throws v_law_throws r_law_throws y_law_throws : Value} {a_law_throws : Addr}
    {o_law_refused : Option Addr} {w_law_refused : Option Addr} {q_law_refused : Array (Option Value)} {i_law_refused j_law_refused u_law_refused v_law_refused r_law_refused y_law_refused : Value} {a_law_refused : Addr}
    {o_law : Option Addr} {w_law : Option Addr} {q_law : Array (Option Value)} {i_law j_law u_law v_law r_law y_law : Value} {a_law : Addr}
    (n_isinstance : PySem.W.nsIn K mainGlobals "isinstance" = some none)
    (n_int : PySem.W.nsIn K mainGlobals "int" = some none)
    (n_bool : PySem.W.nsIn K mainGlobals "bool" = some none)
    (n_list : PySem.W.nsIn K mainGlobals "list" = some none)
    (n_len : PySem.W.nsIn K mainGlobals "len" = some none)
    (n_all : PySem.W.nsIn K mainGlobals "all" = some none)
    (n_sorted : PySem.W.nsIn K mainGlobals "sorted" = some none)
    (n_sum : PySem.W.nsIn K mainGlobals "sum" = some none)
    (n_ValueError : PySem.W.nsIn K mainGlobals "ValueError" = some none)
    (n_range : PySem.W.nsIn K mainGlobals "range" = some none)
    (n_max : PySem.W.nsIn K mainGlobals "max" = some none)
    (n_min : PySem.W.nsIn K mainGlobals "min" = some none)
    (n_tuple : PySem.W.nsIn K mainGlobals "tuple" = some none)
    (m_gcd : PySem.W.nsIn K mainGlobals "gcd" = some (some (.builtin "math.gcd")))
    (c_MOST_FACES : PySem.W.nsIn K mainGlobals "MOST_FACES" = some (some (.int 8 t_MOST_FACES)))
    (c_GREATEST_FACE : PySem.W.nsIn K mainGlobals "GREATEST_FACE" = some (some (.int 99 t_GREATEST_FACE)))
    (c_MOST_DICE : PySem.W.nsIn K mainGlobals "MOST_DICE" = some (some (.int 4 t_MOST_DICE)))
    (hn : PySem.W.specialIn K (.builtin "object.__class__") "__get__" = some (some (.builtin "getset_descriptor.__get__")))
    (ht : PySem.W.takesIn K (.builtin "object.__class__") = some true)
    (g_DiceError : PySem.W.nsIn K mainGlobals "DiceError" = some (some (.ref a_DiceError)))
    (x_DiceError : PySem.W.excIn K a_DiceError [.type "ValueError", .type "Exception", .type "BaseException", .type "object"] "ValueError.__new__" = true)
    (k_DiceError : PySem.W.keepIn K (.ref a_DiceError) = true)
    (b_DiceError : PySem.W.subIn K (.ref a_DiceError) (.type "BaseException") = some true)
    (t_DiceError : PySem.W.typeIn K (.ref a_DiceError) = some (.type "type"))
    (hg_DiceError : PySem.W.findIn K (.ref a_DiceError) "__getattribute__" = some (some (.builtin "BaseException.__getattribute__")))
    (hk_DiceError : PySem.W.findIn K (.ref a_DiceError) "__getattr__" = some none)
    (hd_DiceError : PySem.W.hasDictIn K a_DiceError = true)
    (ha_DiceError : PySem.W.findIn K (.ref a_DiceError) "__class__" = some (some (.builtin "object.__class__")))
    (hm_DiceError : PySem.W.mroIn K a_DiceError (.type "object") = some true)
    (g_BadDie : PySem.W.nsIn K mainGlobals "BadDie" = some (some (.ref a_BadDie)))
    (x_BadDie : PySem.W.excIn K a_BadDie [.type "ValueError", .type "Exception", .type "BaseException", .type "object"] "ValueError.__new__" = true)
    (k_BadDie : PySem.W.keepIn K (.ref a_BadDie) = true)
    (b_BadDie : PySem.W.subIn K (.ref a_BadDie) (.type "BaseException") = some true)
    (t_BadDie : PySem.W.typeIn K (.ref a_BadDie) = some (.type "type"))
    (hg_BadDie : PySem.W.findIn K (.ref a_BadDie) "__getattribute__" = some (some (.builtin "BaseException.__getattribute__")))
    (hk_BadDie : PySem.W.findIn K (.ref a_BadDie) "__getattr__" = some none)
    (hd_BadDie : PySem.W.hasDictIn K a_BadDie = true)
    (ha_BadDie : PySem.W.findIn K (.ref a_BadDie) "__class__" = some (some (.builtin "object.__class__")))
    (hm_BadDie : PySem.W.mroIn K a_BadDie (.type "object") = some true)
    (g_BadDice : PySem.W.nsIn K mainGlobals "BadDice" = some (some (.ref a_BadDice)))
    (x_BadDice : PySem.W.excIn K a_BadDice [.type "ValueError", .type "Exception", .type "BaseException", .type "object"] "ValueError.__new__" = true)
    (k_BadDice : PySem.W.keepIn K (.ref a_BadDice) = true)
    (b_BadDice : PySem.W.subIn K (.ref a_BadDice) (.type "BaseException") = some true)
    (t_BadDice : PySem.W.typeIn K (.ref a_BadDice) = some (.type "type"))
    (hg_BadDice : PySem.W.findIn K (.ref a_BadDice) "__getattribute__" = some (some (.builtin "BaseException.__getattribute__")))
    (hk_BadDice : PySem.W.findIn K (.ref a_BadDice) "__getattr__" = some none)
    (hd_BadDice : PySem.W.hasDictIn K a_BadDice = true)
    (ha_BadDice : PySem.W.findIn K (.ref a_BadDice) "__class__" = some (some (.builtin "object.__class__")))
    (hm_BadDice : PySem.W.mroIn K a_BadDice (.type "object") = some true)
    (g_BadNumber : PySem.W.nsIn K mainGlobals "BadNumber" = some (some (.ref a_BadNumber)))
    (x_BadNumber : PySem.W.excIn K a_BadNumber [.type "ValueError", .type "Exception", .type "BaseException", .type "object"] "ValueError.__new__" = true)
    (k_BadNumber : PySem.W.keepIn K (.ref a_BadNumber) = true)
    (b_BadNumber : PySem.W.subIn K (.ref a_BadNumber) (.type "BaseException") = some true)
    (t_BadNumber : PySem.W.typeIn K (.ref a_BadNumber) = some (.type "type"))
    (hg_BadNumber : PySem.W.findIn K (.ref a_BadNumber) "__getattribute__" = some (some (.builtin "BaseException.__getattribute__")))
    (hk_BadNumber : PySem.W.findIn K (.ref a_BadNumber) "__getattr__" = some none)
    (hd_BadNumber : PySem.W.hasDictIn K a_BadNumber = true)
    (ha_BadNumber : PySem.W.findIn K (.ref a_BadNumber) "__class__" = some (some (.builtin "object.__class__")))
    (hm_BadNumber : PySem.W.mroIn K a_BadNumber (.type "object") = some true)
    (g_BadCounts : PySem.W.nsIn K mainGlobals "BadCounts" = some (some (.ref a_BadCounts)))
    (x_BadCounts : PySem.W.excIn K a_BadCounts [.type "ValueError", .type "Exception", .type "BaseException", .type "object"] "ValueError.__new__" = true)
    (k_BadCounts : PySem.W.keepIn K (.ref a_BadCounts) = true)
    (b_BadCounts : PySem.W.subIn K (.ref a_BadCounts) (.type "BaseException") = some true)
    (t_BadCounts : PySem.W.typeIn K (.ref a_BadCounts) = some (.type "type"))
    (hg_BadCounts : PySem.W.findIn K (.ref a_BadCounts) "__getattribute__" = some (some (.builtin "BaseException.__getattribute__")))
    (hk_BadCounts : PySem.W.findIn K (.ref a_BadCounts) "__getattr__" = some none)
    (hd_BadCounts : PySem.W.hasDictIn K a_BadCounts = true)
    (ha_BadCounts : PySem.W.findIn K (.ref a_BadCounts) "__class__" = some (some (.builtin "object.__class__")))
    (hm_BadCounts : PySem.W.mroIn K a_BadCounts (.type "object") = some true)
    (g_BadText : PySem.W.nsIn K mainGlobals "BadText" = some (some (.ref a_BadText)))
    (x_BadText : PySem.W.excIn K a_BadText [.type "ValueError", .type "Exception", .type "BaseException", .type "object"] "ValueError.__new__" = true)
    (k_BadText : PySem.W.keepIn K (.ref a_BadText) = true)
    (b_BadText : PySem.W.subIn K (.ref a_BadText) (.type "BaseException") = some true)
    (t_BadText : PySem.W.typeIn K (.ref a_BadText) = some (.type "type"))
    (hg_BadText : PySem.W.findIn K (.ref a_BadText) "__getattribute__" = some (some (.builtin "BaseException.__getattribute__")))
    (hk_BadText : PySem.W.findIn K (.ref a_BadText) "__getattr__" = some none)
    (hd_BadText : PySem.W.hasDictIn K a_BadText = true)
    (ha_BadText : PySem.W.findIn K (.ref a_BadText) "__class__" = some (some (.builtin "object.__class__")))
    (hm_BadText : PySem.W.mroIn K a_BadText (.type "object") = some true)
    (s_BadDice_DiceError : PySem.W.kitOne K (.ref a_BadDice) (.ref a_DiceError) = some true)
    (e_BadDice_DiceError : PySem.W.subIn K (.ref a_BadDice) (.ref a_DiceError) = some true)
    (s_BadDice_BadDie : PySem.W.kitOne K (.ref a_BadDice) (.ref a_BadDie) = some false)
    (e_BadDice_BadDie : PySem.W.subIn K (.ref a_BadDice) (.ref a_BadDie) = some false)
    (s_BadDice_BadDice : PySem.W.kitOne K (.ref a_BadDice) (.ref a_BadDice) = some true)
    (e_BadDice_BadDice : PySem.W.subIn K (.ref a_BadDice) (.ref a_BadDice) = some true)
    (s_BadDice_BadNumber : PySem.W.kitOne K (.ref a_BadDice) (.ref a_BadNumber) = some false)
    (e_BadDice_BadNumber : PySem.W.subIn K (.ref a_BadDice) (.ref a_BadNumber) = some false)
    (s_BadDice_BadCounts : PySem.W.kitOne K (.ref a_BadDice) (.ref a_BadCounts) = some false)
    (e_BadDice_BadCounts : PySem.W.subIn K (.ref a_BadDice) (.ref a_BadCounts) = some false)
    (s_BadDice_BadText : PySem.W.kitOne K (.ref a_BadDice) (.ref a_BadText) = some false)
    (e_BadDice_BadText : PySem.W.subIn K (.ref a_BadDice) (.ref a_BadText) = some false)
    (s_BadNumber_DiceError : PySem.W.kitOne K (.ref a_BadNumber) (.ref a_DiceError) = some true)
    (e_BadNumber_DiceError : PySem.W.subIn K (.ref a_BadNumber) (.ref a_DiceError) = some true)
    (s_BadNumber_BadDie : PySem.W.kitOne K (.ref a_BadNumber) (.ref a_BadDie) = some false)
    (e_BadNumber_BadDie : PySem.W.subIn K (.ref a_BadNumber) (.ref a_BadDie) = some false)
    (s_BadNumber_BadDice : PySem.W.kitOne K (.ref a_BadNumber) (.ref a_BadDice) = some false)
    (e_BadNumber_BadDice : PySem.W.subIn K (.ref a_BadNumber) (.ref a_BadDice) = some false)
    (s_BadNumber_BadNumber : PySem.W.kitOne K (.ref a_BadNumber) (.ref a_BadNumber) = some true)
    (e_BadNumber_BadNumber : PySem.W.subIn K (.ref a_BadNumber) (.ref a_BadNumber) = some true)
    (s_BadNumber_BadCounts : PySem.W.kitOne K (.ref a_BadNumber) (.ref a_BadCounts) = some false)
    (e_BadNumber_BadCounts : PySem.W.subIn K (.ref a_BadNumber) (.ref a_BadCounts) = some false)
    (s_BadNumber_BadText : PySem.W.kitOne K (.ref a_BadNumber) (.ref a_BadText) = some false)
    (e_BadNumber_BadText : PySem.W.subIn K (.ref a_BadNumber) (.ref a_BadText) = some false)
    (z_DiceError : PySem.W.kitOne K (.type "NoneType") (.ref a_DiceError) = some false)
    (v_DiceError : PySem.W.kitOne K (.ref a_DiceError) (.type "ValueError") = some true)
    (z_BadDie : PySem.W.kitOne K (.type "NoneType") (.ref a_BadDie) = some false)
    (v_BadDie : PySem.W.kitOne K (.ref a_BadDie) (.type "ValueError") = some true)
    (z_BadDice : PySem.W.kitOne K (.type "NoneType") (.ref a_BadDice) = some false)
    (v_BadDice : PySem.W.kitOne K (.ref a_BadDice) (.type "ValueError") = some true)
    (z_BadNumber : PySem.W.kitOne K (.type "NoneType") (.ref a_BadNumber) = some false)
    (v_BadNumber : PySem.W.kitOne K (.ref a_BadNumber) (.type "ValueError") = some true)
    (z_BadCounts : PySem.W.kitOne K (.type "NoneType") (.ref a_BadCounts) = some false)
    (v_BadCounts : PySem.W.kitOne K (.ref a_BadCounts) (.type "ValueError") = some true)
    (z_BadText : PySem.W.kitOne K (.type "NoneType") (.ref a_BadText) = some false)
    (v_BadText : PySem.W.kitOne K (.ref a_BadText) (.type "ValueError") = some true)
    (g_is_number : PySem.W.nsIn K mainGlobals "is_number" = some (some (.ref a_is_number)))
    (l_is_number : K.lookup a_is_number = some ⟨i_is_number, o_is_number, .func (PySem.W.fnOf "is_number" "is_number" (defArgs st_is_number) (defBody st_is_number) (defScope st_is_number) .none j_is_number u_is_number v_is_number w_is_number r_is_number y_is_number), q_is_number⟩)
    (p_is_number : PySem.W.codeIn K r_is_number "is_number" = true)
    (k_is_number : PySem.W.keepIn K (.ref a_is_number) = true)
    (g_is_face : PySem.W.nsIn K mainGlobals "is_face" = some (some (.ref a_is_face)))
    (l_is_face : K.lookup a_is_face = some ⟨i_is_face, o_is_face, .func (PySem.W.fnOf "is_face" "is_face" (defArgs st_is_face) (defBody st_is_face) (defScope st_is_face) .none j_is_face u_is_face v_is_face w_is_face r_is_face y_is_face), q_is_face⟩)
    (p_is_face : PySem.W.codeIn K r_is_face "is_face" = true)
    (k_is_face : PySem.W.keepIn K (.ref a_is_face) = true)
    (g_is_die : PySem.W.nsIn K mainGlobals "is_die" = some (some (.ref a_is_die)))
    (l_is_die : K.lookup a_is_die = some ⟨i_is_die, o_is_die, .func (PySem.W.fnOf "is_die" "is_die" (defArgs st_is_die) (defBody st_is_die) (defScope st_is_die) .none j_is_die u_is_die v_is_die w_is_die r_is_die y_is_die), q_is_die⟩)
    (p_is_die : PySem.W.codeIn K r_is_die "is_die" = true)
    (k_is_die : PySem.W.keepIn K (.ref a_is_die) = true)
    (g_need_dice : PySem.W.nsIn K mainGlobals "need_dice" = some (some (.ref a_need_dice)))
    (l_need_dice : K.lookup a_need_dice = some ⟨i_need_dice, o_need_dice, .func (PySem.W.fnOf "need_dice" "need_dice" (defArgs st_need_dice) (defBody st_need_dice) (defScope st_need_dice) .none j_need_dice u_need_dice v_need_dice w_need_dice r_need_dice y_need_dice), q_need_dice⟩)
    (p_need_dice : PySem.W.codeIn K r_need_dice "need_dice" = true)
    (k_need_dice : PySem.W.keepIn K (.ref a_need_dice) = true)
    (g_share : PySem.W.nsIn K mainGlobals "share" = some (some (.ref a_share)))
    (l_share : K.lookup a_share = some ⟨i_share, o_share, .func (PySem.W.fnOf "share" "share" (defArgs st_share) (defBody st_share) (defScope st_share) .none j_share u_share v_share w_share r_share y_share), q_share⟩)
    (p_share : PySem.W.codeIn K r_share "share" = true)
    (k_share : PySem.W.keepIn K (.ref a_share) = true)
    (g_counts : PySem.W.nsIn K mainGlobals "counts" = some (some (.ref a_counts)))
    (l_counts : K.lookup a_counts = some ⟨i_counts, o_counts, .func (PySem.W.fnOf "counts" "counts" (defArgs st_counts) (defBody st_counts) (defScope st_counts) .none j_counts u_counts v_counts w_counts r_counts y_counts), q_counts⟩)
    (p_counts : PySem.W.codeIn K r_counts "counts" = true)
    (k_counts : PySem.W.keepIn K (.ref a_counts) = true)
    (g_ways_with : PySem.W.nsIn K mainGlobals "ways_with" = some (some (.ref a_ways_with)))
    (l_ways_with : K.lookup a_ways_with = some ⟨i_ways_with, o_ways_with, .func (PySem.W.fnOf "ways_with" "ways_with" (defArgs st_ways_with) (defBody st_ways_with) (defScope st_ways_with) .none j_ways_with u_ways_with v_ways_with w_ways_with r_ways_with y_ways_with), q_ways_with⟩)
    (p_ways_with : PySem.W.codeIn K r_ways_with "ways_with" = true)
    (k_ways_with : PySem.W.keepIn K (.ref a_ways_with) = true)
    (g_at_least : PySem.W.nsIn K mainGlobals "at_least" = some (some (.ref a_at_least)))
    (l_at_least : K.lookup a_at_least = some ⟨i_at_least, o_at_least, .func (PySem.W.fnOf "at_least" "at_least" (defArgs st_at_least) (defBody st_at_least) (defScope st_at_least) .none j_at_least u_at_least v_at_least w_at_least r_at_least y_at_least), q_at_least⟩)
    (p_at_least : PySem.W.codeIn K r_at_least "at_least" = true)
    (k_at_least : PySem.W.keepIn K (.ref a_at_least) = true)
    (g_law_draw : PySem.W.nsIn K mainGlobals "_law_draw" = some (some (.ref a_law_draw)))
    (l_law_draw : K.lookup a_law_draw = some ⟨i_law_draw, o_law_draw, .func (PySem.W.fnOf "_law_draw" "_law_draw" (defArgs st_law_draw) (defBody st_law_draw) (defScope st_law_draw) .none j_law_draw u_law_draw v_law_draw w_law_draw r_law_draw y_law_draw), q_law_draw⟩)
    (p_law_draw : PySem.W.codeIn K r_law_draw "_law_draw" = true)
    (k_law_draw : PySem.W.keepIn K (.ref a_law_draw) = true)
    (g_law_word : PySem.W.nsIn K mainGlobals "_law_word" = some (some (.ref a_law_word)))
    (l_law_word : K.lookup a_law_word = some ⟨i_law_word, o_law_word, .func (PySem.W.fnOf "_law_word" "_law_word" (defArgs st_law_word) (defBody st_law_word) (defScope st_law_word) .none j_law_word u_law_word v_law_word w_law_word r_law_word y_law_word), q_law_word⟩)
    (p_law_word : PySem.W.codeIn K r_law_word "_law_word" = true)
    (k_law_word : PySem.W.keepIn K (.ref a_law_word) = true)
    (g_law_whole : PySem.W.nsIn K mainGlobals "_law_whole" = some (some (.ref a_law_whole)))
    (l_law_whole : K.lookup a_law_whole = some ⟨i_law_whole, o_law_whole, .func (PySem.W.fnOf "_law_whole" "_law_whole" (defArgs st_law_whole) (defBody st_law_whole) (defScope st_law_whole) .none j_law_whole u_law_whole v_law_whole w_law_whole r_law_whole y_law_whole), q_law_whole⟩)
    (p_law_whole : PySem.W.codeIn K r_law_whole "_law_whole" = true)
    (k_law_whole : PySem.W.keepIn K (.ref a_law_whole) = true)
    (g_law_die : PySem.W.nsIn K mainGlobals "_law_die" = some (some (.ref a_law_die)))
    (l_law_die : K.lookup a_law_die = some ⟨i_law_die, o_law_die, .func (PySem.W.fnOf "_law_die" "_law_die" (defArgs st_law_die) (defBody st_law_die) (defScope st_law_die) .none j_law_die u_law_die v_law_die w_law_die r_law_die y_law_die), q_law_die⟩)
    (p_law_die : PySem.W.codeIn K r_law_die "_law_die" = true)
    (k_law_die : PySem.W.keepIn K (.ref a_law_die) = true)
    (g_law_share : PySem.W.nsIn K mainGlobals "_law_share" = some (some (.ref a_law_share)))
    (l_law_share : K.lookup a_law_share = some ⟨i_law_share, o_law_share, .func (PySem.W.fnOf "_law_share" "_law_share" (defArgs st_law_share) (defBody st_law_share) (defScope st_law_share) .none j_law_share u_law_share v_law_share w_law_share r_law_share y_law_share), q_law_share⟩)
    (p_law_share : PySem.W.codeIn K r_law_share "_law_share" = true)
    (k_law_share : PySem.W.keepIn K (.ref a_law_share) = true)
    (g_law_is : PySem.W.nsIn K mainGlobals "_law_is" = some (some (.ref a_law_is)))
    (l_law_is : K.lookup a_law_is = some ⟨i_law_is, o_law_is, .func (PySem.W.fnOf "_law_is" "_law_is" (defArgs st_law_is) (defBody st_law_is) (defScope st_law_is) .none j_law_is u_law_is v_law_is w_law_is r_law_is y_law_is), q_law_is⟩)
    (p_law_is : PySem.W.codeIn K r_law_is "_law_is" = true)
    (k_law_is : PySem.W.keepIn K (.ref a_law_is) = true)
    (g_law_throws : PySem.W.nsIn K mainGlobals "_law_throws" = some (some (.ref a_law_throws)))
    (l_law_throws : K.lookup a_law_throws = some ⟨i_law_throws, o_law_throws, .func (PySem.W.fnOf "_law_throws" "_law_throws" (defArgs st_law_throws) (defBody st_law_throws) (defScope st_law_throws) .none j_law_throws u_law_throws v_law_throws w_law_throws r_law_throws y_law_throws), q_law_throws⟩)
    (p_law_throws : PySem.W.codeIn K r_law_throws "_law_throws" = true)
    (k_law_throws : PySem.W.keepIn K (.ref a_law_throws) = true)
    (g_law_refused : PySem.W.nsIn K mainGlobals "_law_refused" = some (some (.ref a_law_refused)))
    (l_law_refused : K.lookup a_law_refused = some ⟨i_law_refused, o_law_refused, .func (PySem.W.fnOf "_law_refused" "_law_refused" (defArgs st_law_refused) (defBody st_law_refused) (defScope st_law_refused) .none j_law_refused u_law_refused v_law_refused w_law_refused r_law_refused y_law_refused), q_law_refused⟩)
    (p_law_refused : PySem.W.codeIn K r_law_refused "_law_refused" = true)
    (k_law_refused : PySem.W.keepIn K (.ref a_law_refused) = true)
    (g_law : PySem.W.nsIn K mainGlobals "law" = some (some (.ref a_law)))
    (l_law : K.lookup a_law = some ⟨i_law, o_law, .func (PySem.W.fnOf "law" "law" (defArgs st_law) (defBody st_law) (defScope st_law) .none j_law u_law v_law w_law r_law y_law), q_law⟩)
    (p_law : PySem.W.codeIn K r_law "law" = true)
    (k_law : PySem.W.keepIn K (.ref a_law) = true) :
    ∃ fd : FuncData, (∀ (s : Shared) (v : Value), BindsTo s fd ⟨[v], []⟩ [("_law_script", v)]) ∧ ∀ base : Heap, K.In base → base.Ns mainGlobals mg → FnOk l.prog w K mg base CX0 8 fa fd ["_law_script"] (spLaw K) := by
  have e := hfa.symm.trans (PySem.W.mg_of X G g_law)
  cases e
  exact ⟨(lay_mk X G n_isinstance n_int n_bool n_list n_len n_all n_sorted n_sum n_ValueError n_range n_max n_min n_tuple m_gcd c_MOST_FACES c_GREATEST_FACE c_MOST_DICE hn ht g_DiceError x_DiceError k_DiceError b_DiceError t_DiceError hg_DiceError hk_DiceError hd_DiceError ha_DiceError hm_DiceError g_BadDie x_BadDie k_BadDie b_BadDie t_BadDie hg_BadDie hk_BadDie hd_BadDie ha_BadDie hm_BadDie g_BadDice x_BadDice k_BadDice b_BadDice t_BadDice hg_BadDice hk_BadDice hd_BadDice ha_BadDice hm_BadDice g_BadNumber x_BadNumber k_BadNumber b_BadNumber t_BadNumber hg_BadNumber hk_BadNumber hd_BadNumber ha_BadNumber hm_BadNumber g_BadCounts x_BadCounts k_BadCounts b_BadCounts t_BadCounts hg_BadCounts hk_BadCounts hd_BadCounts ha_BadCounts hm_BadCounts g_BadText x_BadText k_BadText b_BadText t_BadText hg_BadText hk_BadText hd_BadText ha_BadText hm_BadText s_BadDice_DiceError e_BadDice_DiceError s_BadDice_BadDie e_BadDice_BadDie s_BadDice_BadDice e_BadDice_BadDice s_BadDice_BadNumber e_BadDice_BadNumber s_BadDice_BadCounts e_BadDice_BadCounts s_BadDice_BadText e_BadDice_BadText s_BadNumber_DiceError e_BadNumber_DiceError s_BadNumber_BadDie e_BadNumber_BadDie s_BadNumber_BadDice e_BadNumber_BadDice s_BadNumber_BadNumber e_BadNumber_BadNumber s_BadNumber_BadCounts e_BadNumber_BadCounts s_BadNumber_BadText e_BadNumber_BadText z_DiceError v_DiceError z_BadDie v_BadDie z_BadDice v_BadDice z_BadNumber v_BadNumber z_BadCounts v_BadCounts z_BadText v_BadText g_is_number l_is_number p_is_number k_is_number g_is_face l_is_face p_is_face k_is_face g_is_die l_is_die p_is_die k_is_die g_need_dice l_need_dice p_need_dice k_need_dice g_share l_share p_share k_share g_counts l_counts p_counts k_counts g_ways_with l_ways_with p_ways_with k_ways_with g_at_least l_at_least p_at_least k_at_least g_law_draw l_law_draw p_law_draw k_law_draw g_law_word l_law_word p_law_word k_law_word g_law_whole l_law_whole p_law_whole k_law_whole g_law_die l_law_die p_law_die k_law_die g_law_share l_law_share p_law_share k_law_share g_law_is l_law_is p_law_is k_law_is g_law_throws l_law_throws p_law_throws k_law_throws g_law_refused l_law_refused p_law_refused k_law_refused g_law l_law p_law k_law).d_law, fun s v => .of_eq rfl, fun base _ _ => ok_law (lay_mk X G n_isinstance n_int n_bool n_list n_len n_all n_sorted n_sum n_ValueError n_range n_max n_min n_tuple m_gcd c_MOST_FACES c_GREATEST_FACE c_MOST_DICE hn ht g_DiceError x_DiceError k_DiceError b_DiceError t_DiceError hg_DiceError hk_DiceError hd_DiceError ha_DiceError hm_DiceError g_BadDie x_BadDie k_BadDie b_BadDie t_BadDie hg_BadDie hk_BadDie hd_BadDie ha_BadDie hm_BadDie g_BadDice x_BadDice k_BadDice b_BadDice t_BadDice hg_BadDice hk_BadDice hd_BadDice ha_BadDice hm_BadDice g_BadNumber x_BadNumber k_BadNumber b_BadNumber t_BadNumber hg_BadNumber hk_BadNumber hd_BadNumber ha_BadNumber hm_BadNumber g_BadCounts x_BadCounts k_BadCounts b_BadCounts t_BadCounts hg_BadCounts hk_BadCounts hd_BadCounts ha_BadCounts hm_BadCounts g_BadText x_BadText k_BadText b_BadText t_BadText hg_BadText hk_BadText hd_BadText ha_BadText hm_BadText s_BadDice_DiceError e_BadDice_DiceError s_BadDice_BadDie e_BadDice_BadDie s_BadDice_BadDice e_BadDice_BadDice s_BadDice_BadNumber e_BadDice_BadNumber s_BadDice_BadCounts e_BadDice_BadCounts s_BadDice_BadText e_BadDice_BadText s_BadNumber_DiceError e_BadNumber_DiceError s_BadNumber_BadDie e_BadNumber_BadDie s_BadNumber_BadDice e_BadNumber_BadDice s_BadNumber_BadNumber e_BadNumber_BadNumber s_BadNumber_BadCounts e_BadNumber_BadCounts s_BadNumber_BadText e_BadNumber_BadText z_DiceError v_DiceError z_BadDie v_BadDie z_BadDice v_BadDice z_BadNumber v_BadNumber z_BadCounts v_BadCounts z_BadText v_BadText g_is_number l_is_number p_is_number k_is_number g_is_face l_is_face p_is_face k_is_face g_is_die l_is_die p_is_die k_is_die g_need_dice l_need_dice p_need_dice k_need_dice g_share l_share p_share k_share g_counts l_counts p_counts k_counts g_ways_with l_ways_with p_ways_with k_ways_with g_at_least l_at_least p_at_least k_at_least g_law_draw l_law_draw p_law_draw k_law_draw g_law_word l_law_word p_law_word k_law_word g_law_whole l_law_whole p_law_whole k_law_whole g_law_die l_law_die p_law_die k_law_die g_law_share l_law_share p_law_share k_law_share g_law_is l_law_is p_law_is k_law_is g_law_throws l_law_throws p_law_throws k_law_throws g_law_refused l_law_refused p_law_refused k_law_refused g_law l_law p_law k_law)⟩
end My
open PySem PySem.W PyProof.Rows
set_option maxHeartbeats 0 in
theorem PySem.Challenge.cw_dicepairs_k03_sums_that_are_enough_holds : PySem.Challenge.rw_dicepairs_k03_sums_that_are_enough.Holds := by
  w_on; o_law; k_head; (case hw => w_witness2)
  k_fill
  refine L2.walk_of (l := PySem.Challenge.rw_dicepairs_k03_sums_that_are_enough) (n := 63) (k := 8) (x := "_law_script") (CX := fun _ => L2.CX0) (sp := fun w => My.spLaw _) rfl (by decide) rfl ⟨rfl, by decide, by decide⟩ (fun w h Y => PySem.W.kIn_of Y) ?F (fun _ _ a ns hl _ hS => ⟨a, ns, rfl, hS, hl, fun _ => rfl⟩) (fun _ _ _ _ _ h => h)
  case F =>
    intro w mg fa h KX G hmg
    refine' My.all_mk KX G hmg ?n_isinstance ?n_int ?n_bool ?n_list ?n_len ?n_all ?n_sorted ?n_sum ?n_ValueError ?n_range ?n_max ?n_min ?n_tuple ?m_gcd ?c_MOST_FACES ?c_GREATEST_FACE ?c_MOST_DICE ?hn ?ht ?g_DiceError ?x_DiceError ?k_DiceError ?b_DiceError ?t_DiceError ?hg_DiceError ?hk_DiceError ?hd_DiceError ?ha_DiceError ?hm_DiceError ?g_BadDie ?x_BadDie ?k_BadDie ?b_BadDie ?t_BadDie ?hg_BadDie ?hk_BadDie ?hd_BadDie ?ha_BadDie ?hm_BadDie ?g_BadDice ?x_BadDice ?k_BadDice ?b_BadDice ?t_BadDice ?hg_BadDice ?hk_BadDice ?hd_BadDice ?ha_BadDice ?hm_BadDice ?g_BadNumber ?x_BadNumber ?k_BadNumber ?b_BadNumber ?t_BadNumber ?hg_BadNumber ?hk_BadNumber ?hd_BadNumber ?ha_BadNumber ?hm_BadNumber ?g_BadCounts ?x_BadCounts ?k_BadCounts ?b_BadCounts ?t_BadCounts ?hg_BadCounts ?hk_BadCounts ?hd_BadCounts ?ha_BadCounts ?hm_BadCounts ?g_BadText ?x_BadText ?k_BadText ?b_BadText ?t_BadText ?hg_BadText ?hk_BadText ?hd_BadText ?ha_BadText ?hm_BadText ?s_BadDice_DiceError ?e_BadDice_DiceError ?s_BadDice_BadDie ?e_BadDice_BadDie ?s_BadDice_BadDice ?e_BadDice_BadDice ?s_BadDice_BadNumber ?e_BadDice_BadNumber ?s_BadDice_BadCounts ?e_BadDice_BadCounts ?s_BadDice_BadText ?e_BadDice_BadText ?s_BadNumber_DiceError ?e_BadNumber_DiceError ?s_BadNumber_BadDie ?e_BadNumber_BadDie ?s_BadNumber_BadDice ?e_BadNumber_BadDice ?s_BadNumber_BadNumber ?e_BadNumber_BadNumber ?s_BadNumber_BadCounts ?e_BadNumber_BadCounts ?s_BadNumber_BadText ?e_BadNumber_BadText ?z_DiceError ?v_DiceError ?z_BadDie ?v_BadDie ?z_BadDice ?v_BadDice ?z_BadNumber ?v_BadNumber ?z_BadCounts ?v_BadCounts ?z_BadText ?v_BadText ?g_is_number ?l_is_number ?p_is_number ?k_is_number ?g_is_face ?l_is_face ?p_is_face ?k_is_face ?g_is_die ?l_is_die ?p_is_die ?k_is_die ?g_need_dice ?l_need_dice ?p_need_dice ?k_need_dice ?g_share ?l_share ?p_share ?k_share ?g_counts ?l_counts ?p_counts ?k_counts ?g_ways_with ?l_ways_with ?p_ways_with ?k_ways_with ?g_at_least ?l_at_least ?p_at_least ?k_at_least ?g_law_draw ?l_law_draw ?p_law_draw ?k_law_draw ?g_law_word ?l_law_word ?p_law_word ?k_law_word ?g_law_whole ?l_law_whole ?p_law_whole ?k_law_whole ?g_law_die ?l_law_die ?p_law_die ?k_law_die ?g_law_share ?l_law_share ?p_law_share ?k_law_share ?g_law_is ?l_law_is ?p_law_is ?k_law_is ?g_law_throws ?l_law_throws ?p_law_throws ?k_law_throws ?g_law_refused ?l_law_refused ?p_law_refused ?k_law_refused ?g_law ?l_law ?p_law ?k_law
    (case n_isinstance => first | k_is | rfl)
    (case n_int => first | k_is | rfl)
    (case n_bool => first | k_is | rfl)
    (case n_list => first | k_is | rfl)
    (case n_len => first | k_is | rfl)
    (case n_all => first | k_is | rfl)
    (case n_sorted => first | k_is | rfl)
    (case n_sum => first | k_is | rfl)
    (case n_ValueError => first | k_is | rfl)
    (case n_range => first | k_is | rfl)
    (case n_max => first | k_is | rfl)
    (case n_min => first | k_is | rfl)
    (case n_tuple => first | k_is | rfl)
    (case m_gcd => first | k_is | rfl)
    (case c_MOST_FACES => first | k_is | rfl)
    (case c_GREATEST_FACE => first | k_is | rfl)
    (case c_MOST_DICE => first | k_is | rfl)
    (case hn => first | k_is | rfl)
    (case ht => first | k_is | rfl)
    (case g_DiceError => first | k_is | rfl)
    (case x_DiceError => k_exc)
    (case k_DiceError => first | k_is | rfl)
    (case b_DiceError => first | k_is | rfl)
    (case t_DiceError => first | k_is | rfl)
    (case hg_DiceError => first | k_is | rfl)
    (case hk_DiceError => first | k_is | rfl)
    (case hd_DiceError => first | k_is | rfl)
    (case ha_DiceError => first | k_is | rfl)
    (case hm_DiceError => first | k_is | rfl)
    (case g_BadDie => first | k_is | rfl)
    (case x_BadDie => k_exc)
    (case k_BadDie => first | k_is | rfl)
    (case b_BadDie => first | k_is | rfl)
    (case t_BadDie => first | k_is | rfl)
    (case hg_BadDie => first | k_is | rfl)
    (case hk_BadDie => first | k_is | rfl)
    (case hd_BadDie => first | k_is | rfl)
    (case ha_BadDie => first | k_is | rfl)
    (case hm_BadDie => first | k_is | rfl)
    (case g_BadDice => first | k_is | rfl)
    (case x_BadDice => k_exc)
    (case k_BadDice => first | k_is | rfl)
    (case b_BadDice => first | k_is | rfl)
    (case t_BadDice => first | k_is | rfl)
    (case hg_BadDice => first | k_is | rfl)
    (case hk_BadDice => first | k_is | rfl)
    (case hd_BadDice => first | k_is | rfl)
    (case ha_BadDice => first | k_is | rfl)
    (case hm_BadDice => first | k_is | rfl)
    (case g_BadNumber => first | k_is | rfl)
    (case x_BadNumber => k_exc)
    (case k_BadNumber => first | k_is | rfl)
    (case b_BadNumber => first | k_is | rfl)
    (case t_BadNumber => first | k_is | rfl)
    (case hg_BadNumber => first | k_is | rfl)
    (case hk_BadNumber => first | k_is | rfl)
    (case hd_BadNumber => first | k_is | rfl)
    (case ha_BadNumber => first | k_is | rfl)
    (case hm_BadNumber => first | k_is | rfl)
    (case g_BadCounts => first | k_is | rfl)
    (case x_BadCounts => k_exc)
    (case k_BadCounts => first | k_is | rfl)
    (case b_BadCounts => first | k_is | rfl)
    (case t_BadCounts => first | k_is | rfl)
    (case hg_BadCounts => first | k_is | rfl)
    (case hk_BadCounts => first | k_is | rfl)
    (case hd_BadCounts => first | k_is | rfl)
    (case ha_BadCounts => first | k_is | rfl)
    (case hm_BadCounts => first | k_is | rfl)
    (case g_BadText => first | k_is | rfl)
    (case x_BadText => k_exc)
    (case k_BadText => first | k_is | rfl)
    (case b_BadText => first | k_is | rfl)
    (case t_BadText => first | k_is | rfl)
    (case hg_BadText => first | k_is | rfl)
    (case hk_BadText => first | k_is | rfl)
    (case hd_BadText => first | k_is | rfl)
    (case ha_BadText => first | k_is | rfl)
    (case hm_BadText => first | k_is | rfl)
    (case s_BadDice_DiceError => first | k_is | rfl)
    (case e_BadDice_DiceError => first | k_is | rfl)
    (case s_BadDice_BadDie => first | k_is | rfl)
    (case e_BadDice_BadDie => first | k_is | rfl)
    (case s_BadDice_BadDice => first | k_is | rfl)
    (case e_BadDice_BadDice => first | k_is | rfl)
    (case s_BadDice_BadNumber => first | k_is | rfl)
    (case e_BadDice_BadNumber => first | k_is | rfl)
    (case s_BadDice_BadCounts => first | k_is | rfl)
    (case e_BadDice_BadCounts => first | k_is | rfl)
    (case s_BadDice_BadText => first | k_is | rfl)
    (case e_BadDice_BadText => first | k_is | rfl)
    (case s_BadNumber_DiceError => first | k_is | rfl)
    (case e_BadNumber_DiceError => first | k_is | rfl)
    (case s_BadNumber_BadDie => first | k_is | rfl)
    (case e_BadNumber_BadDie => first | k_is | rfl)
    (case s_BadNumber_BadDice => first | k_is | rfl)
    (case e_BadNumber_BadDice => first | k_is | rfl)
    (case s_BadNumber_BadNumber => first | k_is | rfl)
    (case e_BadNumber_BadNumber => first | k_is | rfl)
    (case s_BadNumber_BadCounts => first | k_is | rfl)
    (case e_BadNumber_BadCounts => first | k_is | rfl)
    (case s_BadNumber_BadText => first | k_is | rfl)
    (case e_BadNumber_BadText => first | k_is | rfl)
    (case z_DiceError => first | k_is | rfl)
    (case v_DiceError => first | k_is | rfl)
    (case z_BadDie => first | k_is | rfl)
    (case v_BadDie => first | k_is | rfl)
    (case z_BadDice => first | k_is | rfl)
    (case v_BadDice => first | k_is | rfl)
    (case z_BadNumber => first | k_is | rfl)
    (case v_BadNumber => first | k_is | rfl)
    (case z_BadCounts => first | k_is | rfl)
    (case v_BadCounts => first | k_is | rfl)
    (case z_BadText => first | k_is | rfl)
    (case v_BadText => first | k_is | rfl)
    (case g_is_number => first | k_is | rfl)
    (case l_is_number => first | k_is | rfl)
    (case p_is_number => first | k_is | rfl)
    (case k_is_number => first | k_is | rfl)
    (case g_is_face => first | k_is | rfl)
    (case l_is_face => first | k_is | rfl)
    (case p_is_face => first | k_is | rfl)
    (case k_is_face => first | k_is | rfl)
    (case g_is_die => first | k_is | rfl)
    (case l_is_die => first | k_is | rfl)
    (case p_is_die => first | k_is | rfl)
    (case k_is_die => first | k_is | rfl)
    (case g_need_dice => first | k_is | rfl)
    (case l_need_dice => first | k_is | rfl)
    (case p_need_dice => first | k_is | rfl)
    (case k_need_dice => first | k_is | rfl)
    (case g_share => first | k_is | rfl)
    (case l_share => first | k_is | rfl)
    (case p_share => first | k_is | rfl)
    (case k_share => first | k_is | rfl)
    (case g_counts => first | k_is | rfl)
    (case l_counts => first | k_is | rfl)
    (case p_counts => first | k_is | rfl)
    (case k_counts => first | k_is | rfl)
    (case g_ways_with => first | k_is | rfl)
    (case l_ways_with => first | k_is | rfl)
    (case p_ways_with => first | k_is | rfl)
    (case k_ways_with => first | k_is | rfl)
    (case g_at_least => first | k_is | rfl)
    (case l_at_least => first | k_is | rfl)
    (case p_at_least => first | k_is | rfl)
    (case k_at_least => first | k_is | rfl)
    (case g_law_draw => first | k_is | rfl)
    (case l_law_draw => first | k_is | rfl)
    (case p_law_draw => first | k_is | rfl)
    (case k_law_draw => first | k_is | rfl)
    (case g_law_word => first | k_is | rfl)
    (case l_law_word => first | k_is | rfl)
    (case p_law_word => first | k_is | rfl)
    (case k_law_word => first | k_is | rfl)
    (case g_law_whole => first | k_is | rfl)
    (case l_law_whole => first | k_is | rfl)
    (case p_law_whole => first | k_is | rfl)
    (case k_law_whole => first | k_is | rfl)
    (case g_law_die => first | k_is | rfl)
    (case l_law_die => first | k_is | rfl)
    (case p_law_die => first | k_is | rfl)
    (case k_law_die => first | k_is | rfl)
    (case g_law_share => first | k_is | rfl)
    (case l_law_share => first | k_is | rfl)
    (case p_law_share => first | k_is | rfl)
    (case k_law_share => first | k_is | rfl)
    (case g_law_is => first | k_is | rfl)
    (case l_law_is => first | k_is | rfl)
    (case p_law_is => first | k_is | rfl)
    (case k_law_is => first | k_is | rfl)
    (case g_law_throws => first | k_is | rfl)
    (case l_law_throws => first | k_is | rfl)
    (case p_law_throws => first | k_is | rfl)
    (case k_law_throws => first | k_is | rfl)
    (case g_law_refused => first | k_is | rfl)
    (case l_law_refused => first | k_is | rfl)
    (case p_law_refused => first | k_is | rfl)
    (case k_law_refused => first | k_is | rfl)
    (case g_law => first | k_is | rfl)
    (case l_law => first | k_is | rfl)
    (case p_law => first | k_is | rfl)
    (case k_law => first | k_is | rfl)
