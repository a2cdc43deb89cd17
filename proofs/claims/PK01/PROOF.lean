import PyProof.Rows.All
import Wide.All
import OpenK.AllK
import Wide.FinOn
import HandS.ForExc
import HandS.TryMany
import HandS.ForMost
import HandS.Evl
import HandS.Wide
import HandS.IsInst
import HandS.TupAny
import HandS.TupMul
import HandS.ExcInit
import HandS.ExcField
import HandS.Small
import HandS.Lambda
import HandS.Gcd
import HandS.Defaults
import HandS.HeadWalk
import HandS.HeadHook4
import HandS.Head2
import HandS.Style
import KE.KMathGC
import KE.GoesEnum
import HandS.Comp
import HandS.GenList
import HandS.AnyAll
import PyProof.TupleOfGen
import HandS.Head3
import HandS.HeadEnd
import PySem.Challenge.RW_hushdrawers_k01_whole_lives
set_option Elab.async false
set_option linter.all false
set_option maxRecDepth 100000
set_option maxHeartbeats 4000000
/-! several except clauses, some with a name -/
namespace Hd
open PySem PySem.Spec PyProof.Rows L2
abbrev ClTS := Addr → Value → Option Addr → TS
/-- behind a clause with a name its slot is bare again -/
def bareAt (i : Nat) (D : Ends) : Ends :=
  ⟨fun z G => D.nx (z.set i none) G, D.rt, fun z G => D.bk (z.set i none) G, fun z G => D.ct (z.set i none) G⟩
def named (i : Nat) (t : ClTS) : ClTS := fun a c d D z G => t a c d (bareAt i D) (z.set i (some (.ref a))) G
inductive Clauses (X : Cx) : List ExceptHandler → List (Value × ClTS) → Prop
  | nil : Clauses X [] []
  | bare {x : Str} {c : Value} {t : ClTS} {b : Stmt} {bs : List Stmt} {q q' : Pos} {hs : List ExceptHandler} {l : List (Value × ClTS)} (hc : Names X x c)
      (hb : ∀ (a : Addr) (oe : Obj) (k : Value) (d : Option Addr) (pn : List (Addr × Obj)), Zc k d oe → (∃ vs, oe.data = .fields vs) → PSs (X.suite a ((a, oe) :: pn)) (b :: bs) (t a k d)) (r : Clauses X hs l) :
      Clauses X (.ExceptHandler (some (.Name x q)) none (b :: bs) q' :: hs) ((c, t) :: l)
  | as_ {x n : Str} {i : Nat} {c : Value} {t : ClTS} {b : Stmt} {bs : List Stmt} {q q' : Pos} {hs : List ExceptHandler} {l : List (Value × ClTS)} (hN : X.N.Nodup) (hi : X.N[i]? = some n) (hn : X.env.kindOf n = some .local) (hc : Names X x c)
      (hb : ∀ (a : Addr) (oe : Obj) (k : Value) (d : Option Addr) (pn : List (Addr × Obj)), Zc k d oe → (∃ vs, oe.data = .fields vs) → PSs (X.suite a ((a, oe) :: pn)) (b :: bs) (t a k d)) (r : Clauses X hs l) :
      Clauses X (.ExceptHandler (some (.Name x q)) (some n) (b :: bs) q' :: hs) ((c, named i t) :: l)
/-- the exception at a has landed in this frame at heap g; J is the state without it -/
structure Landed (X : Cx) (pins : List (Addr × Obj)) (z : L2.St) (G : Hp) (a : Addr) (B : Heap) (cls : Value) (d : Option Addr) (sI s' : Shared) (g : Heap) : Prop where
  own : X.stack = X.env :: X.outer
  frm : X.env.frame = some X.env.locals
  st : Inv X pins z G sI
  ground : ∀ b o, sI.heap.get? b = some o → b ∉ frs X.stack → B.get? b = some o
  ups : sI.heap.UpToSlots g
  out : G a = none
  os : s'.os = sI.os
  gens : AllBare s'.gens
  fly : HandSPX.FlyingZ B (X.env :: X.outer) a (Zc cls d) g
section
variable {X : Cx} {pins : List (Addr × Obj)} {z : L2.St} {G : Hp} {a : Addr} {B g : Heap} {cls : Value} {d : Option Addr} {sI s' : Shared} {D : Ends} {Wout : WX}
theorem Landed.inv (L : Landed X pins z G a B cls d sI s' g) : Inv X pins z G { s' with heap := g } :=
  L.st.landed (s' := { s' with heap := g }) L.ground L.fly.1 L.ups L.os L.gens
theorem Landed.far (L : Landed X pins z G a B cls d sI s' g) : a ≠ X.env.locals ∧ a ∉ X.fs := by
  obtain ⟨oe, vs, e1, _, e3⟩ := L.fly.there
  have no : a ∉ frs (X.env :: X.outer) := fun m => by
    obtain ⟨_, ob, e4, nf⟩ := L.fly.2.2.1.mem m
    have e5 := e1.symm.trans e4
    cases e5
    exact nf vs e3
  constructor
  · intro e
    refine no (List.mem_filterMap.mpr ⟨X.env, List.mem_cons_self, ?_⟩)
    rw [L.frm, e]
  · intro m
    obtain ⟨en, m1, m2⟩ := List.mem_filterMap.mp m
    exact no (List.mem_filterMap.mpr ⟨en, List.mem_cons_of_mem X.env m1, m2⟩)
/-- the suite of a clause is entered with the flight set to none once more -/
theorem Landed.suite (L : Landed X pins z G a B cls d sI s' g) {A : Around} {Q : Unit → Shared → Prop} {E : Value → Shared → Prop}
    (k : ∀ g' oe, Landed X pins z G a B cls d sI s' g' → g'.get? a = some oe → Zc cls d oe → (∃ vs, oe.data = .fields vs) → Inv (X.suite a ((a, oe) :: (X.pn ++ pins))) [] z G { s' with heap := g' } → Q () { s' with heap := g' }) :
    wpAny (model X.prog X.w) A (setFlight (.ref a) none) Q E { s' with heap := g } :=
  HandSPX.lands_againZ L.fly fun g' f u => by
    have L' : Landed X pins z G a B cls d sI s' g' := { L with ups := L.ups.trans u, fly := f }
    obtain ⟨oe, vs, e1, e2, e3⟩ := f.there
    exact k g' oe L' e1 e2 ⟨vs, e3⟩ (L'.inv.suite e1 e3 L.out L.far.1 L.far.2)
/-- no clause took it: it flies on -/
theorem Landed.on (L : Landed X pins z G a B cls d sI s' g) (tk : Takes X Wout) (w : Wout cls d z G) :
    wpAny (model X.prog X.w) X.A (handleBy (.ref a) X.env []) (SP X pins D) X.xe { s' with heap := g } := by
  refine wpAny_handleBy_nil ?_
  obtain ⟨oe, vs, T, oT, ts, e1, _, e3, e4, _⟩ := L.fly.2.2.2
  unfold PySem.passOn
  refine wpAny_bind (wpAny_field e1 e3 e4 ?_)
  rw [if_neg (show ¬ ((Value.ref T == Value.none) = true) by simp)]
  have go : wpAny (model X.prog X.w) X.A (setFlight (.ref a) X.env.frame) (fun _ t => wpAny (model X.prog X.w) X.A (throw (.ref a) : Sem Flow) (SP X pins D) X.xe t) X.xe { s' with heap := g } := by
    rw [L.frm]
    refine HandSPX.setFlight_upZ L.fly fun g' hh u => wpAny_throw (tk _ _ ⟨a, B, sI, pins, z, G, cls, d, rfl, L.st, L.ground, L.ups.trans u, ?_, L.out, L.os, L.gens, w⟩)
    rw [L.own]
    exact Or.inr (Or.inr hh)
  first | exact wpAny_bind (wpAny_pure (wpAny_bind go)) | exact wpAny_bind go
theorem SP.unsuite {q : Addr × Obj} {f : Flow} {s : Shared} (ok : X.Ok) (h : SP (X.suite a (q :: (X.pn ++ pins))) [] D f s) : SP X pins D f s := by
  cases f with
  | ret u => exact let ⟨v, z, G, I, r, w⟩ := h; ⟨v, z, G, I.unsuite ok, r, w⟩
  | _ => exact let ⟨z, G, I, w⟩ := h; ⟨z, G, I.unsuite ok, w⟩
/-- the clauses, one behind another -/
theorem clauses_run (L : Landed X pins z G a B cls d sI s' g) (tk : Takes X Wout) : ∀ {hs : List ExceptHandler} {l : List (Value × ClTS)}, Clauses X hs l → wMany X.K Wout D l cls d z G →
    wpAny (model X.prog X.w) X.A (handleBy (.ref a) X.env hs) (SP X pins D) X.xe { s' with heap := g } := by
  intro hs l hk
  have I3 := L.inv
  obtain ⟨oe3, vs3, e1, e2, e3⟩ := L.fly.there
  have S3 := I3.suite e1 e3 L.out L.far.1 L.far.2
  have ty : PySem.W.Looks (model X.prog X.w) g (typeOf (.ref a)) cls := fun A Q E s k q => wpAny_typeOf_ref (k a oe3 e1) (by rw [e2.1]; exact q)
  have look : ∀ {x : Str} {c : Value} {q : Pos} {Q : Value → Shared → Prop} {E : Value → Shared → Prop}, Names X x c → Q c { s' with heap := g } → wpAny (model X.prog X.w) (X.A.mark (some (.ref a))) (eval (.Name x q) X.env) Q E { s' with heap := g } := by
    intro x c q Q E hc hq
    rcases hc with ⟨n1, n2, n3 | ⟨n3, n4, n5⟩⟩
    · exact ld_glob (X := X.suite a ((a, oe3) :: (X.pn ++ pins))) S3 n1 n3 hq n2
    · exact ld_blt (X := X.suite a ((a, oe3) :: (X.pn ++ pins))) S3 n1 n3 n4 hq n5 n2
  induction hk with
  | nil => exact fun w => L.on tk w
  | bare hc hb r ih =>
    rintro ⟨y, hy, w1, w2⟩
    refine wpAny_handleBy_cons (codeAny_handlers_test (look hc ((PySem.W.exm_one (M := model X.prog X.w) I3.kIn ty hy).here ?_))) (by intro n; cases n)
    cases y with
    | false => exact ih (w2 rfl)
    | true =>
      refine codeAny_handlers_suite (L.suite fun g' oe L' f1 f2 f3 S => ?_)
      exact wpAny_mono ((hb a oe cls d _ f2 f3).run [] _ z G D S (w1 rfl a L.out)) (fun f t h => SP.unsuite I3.ok h) fun _ _ n => n.elim
  | @as_ x n i c t b bs q q' hs2 l2 hN hi hn hc hb r ih =>
    rintro ⟨y, hy, w1, w2⟩
    refine wpAny_handleBy_cons (codeAny_handlers_test (look hc ((PySem.W.exm_one (M := model X.prog X.w) I3.kIn ty hy).here ?_))) (by intro n; cases n)
    cases y with
    | false => exact ih (w2 rfl)
    | true =>
      refine codeAny_handlers_suite_as (L.suite fun g' oe L' f1 f2 f3 S => ?_)
      refine store_ok (X := X.suite a ((a, oe) :: (X.pn ++ pins))) (v := .ref a) S hN hi (.inl hn) rfl (fun s5 S5 => ?_) (.inr hn)
      refine wpAny_mono ((hb a oe cls d _ f2 f3).run [] s5 _ G (bareAt i D) S5 (w1 rfl a L.out)) (fun f t h => ?_) fun _ _ n => n.elim
      have h' := SP.unsuite I3.ok h
      cases f with
      | ret u =>
        obtain ⟨v, z6, G6, J6, r6, q6⟩ := h'
        exact gone_ok J6 hN hi hn fun s7 J7 => ⟨v, _, _, J7, r6, q6⟩
      | next =>
        obtain ⟨z6, G6, J6, q6⟩ := h'
        exact gone_ok J6 hN hi hn fun s7 J7 => ⟨_, _, J7, q6⟩
      | brk =>
        obtain ⟨z6, G6, J6, q6⟩ := h'
        exact gone_ok J6 hN hi hn fun s7 J7 => ⟨_, _, J7, q6⟩
      | cont =>
        obtain ⟨z6, G6, J6, q6⟩ := h'
        exact gone_ok J6 hN hi hn fun s7 J7 => ⟨_, _, J7, q6⟩
end
/-- try: body / except .. (as ..): .. / except ..: .. -/
theorem ps_tries {X : Cx} {body : List Stmt} {c0 : ExceptHandler} {cs : List ExceptHandler} {l : List (Value × ClTS)} {pos : Pos} {tb : WX → TS} {Wout : WX} (own : X.stack = X.env :: X.outer) (frm : X.env.frame = some X.env.locals) (tk : Takes X Wout)
    (hb : ∀ (W : WX) (pn : List (Addr × Obj)) (xe : Value → Shared → Prop), Takes (X.tr pn xe) W → PassesOwn (model X.prog X.w) X.A X.env xe → PSs (X.tr pn xe) body (tb W))
    (hh : Clauses X (c0 :: cs) l) : PS X (.Try body (c0 :: cs) [] [] pos) (fun D z G => tb (wMany X.K Wout D l) D z G) := by
  constructor
  intro pins s z G D I h
  have fr : X.A.frames = some (X.env :: X.outer) := by rw [I.ok.frames, own]
  refine wpAny_Try_except (wpAny_mono ((hb (wMany X.K Wout D l) (X.pn ++ pins) (fun e s1 => wpAny (model X.prog X.w) X.A (noteFrame e X.env) (fun _ s2 => wpAny (model X.prog X.w) X.A (setFlight e none) (fun _ s3 =>
    wpAny (model X.prog X.w) X.A (handleBy e X.env (c0 :: cs)) (SP X pins D) X.xe s3) X.xe s2) X.xe s1) (fun u s' x => ?_) PassesOwn.looking).run [] s z G D (I.toTry _) h) (fun f s1 q => ?_) fun _ _ q => q)
  · obtain ⟨a, B, sI, p', z', G', cls, d, rfl, J, nb, up, sky, na, os, ag, w⟩ := x
    refine Sky.land Zc.steady fr frm (by rw [← own]; exact sky) fun g fl u => ?_
    exact clauses_run (D := D) ⟨own, frm, J.ofTry I.ok, nb, up.trans u, na, os, ag, fl⟩ tk hh w
  · cases f with
    | ret u => exact let ⟨v, z1, G1, J, r, w⟩ := q; ⟨v, z1, G1, J.ofTry I.ok, r, w⟩
    | next => exact let ⟨z1, G1, J, w⟩ := q; wpAny_execs_nil ⟨z1, G1, J.ofTry I.ok, w⟩
    | brk => exact let ⟨z1, G1, J, w⟩ := q; ⟨z1, G1, J.ofTry I.ok, w⟩
    | cont => exact let ⟨z1, G1, J, w⟩ := q; ⟨z1, G1, J.ofTry I.ok, w⟩
end Hd

set_option maxHeartbeats 4000000
namespace Hd
open PySem PySem.Spec PyProof.Rows L2
/-! ### comb -/
def rComb : List V → Hp → VK → Prop := fun xs H Q => ∃ a b : Int, xs = [.int a, .int b] ∧ 0 ≤ a ∧ 0 ≤ b ∧ a ≤ 18000 ∧ Q (.int (PySem.W.mcComb a b)) H
theorem call_comb {X : Cx} : CallR X (.builtin "math.comb") rComb := by
  rintro pins s σ H vs us Q I r ⟨a, b, rfl, h1, h2, h3, q⟩
  obtain ⟨t, u, rfl⟩ := Vals.int2 r
  exact PySem.W.mc_comb h1 h2 (by omega) (.inr h3) fun _ => ⟨.int _, H, I.tok _, ⟨_, rfl⟩, q⟩
/-! ### X() -/
theorem pmk_own0 {X : Cx} {C : Addr} {bmB : List Value} {B newId initId : String} {x : Str} {p pos : Pos} (F : ExcBaseFacts B newId initId bmB) (q : PySem.W.excIn X.K C bmB newId = true) (gC : X.mg x = some (.ref C))
    (kC : PySem.W.keepIn X.K (.ref C) = true) (r : Raises X (.ref C)) (hg : Gl X x) (hdb : (x == ("__debug__" : Str)) = false := by decide) : PMk X (.Call (.Name x p) [] [] pos) (fun _ H Q => Q (.ref C) none H) := by
  intro pins s σ H Q I h
  refine wpAny_Call_Name_kw (ld_glob I hg gC ?_ hdb)
  refine PySem.W.callWith_K0 I.kIn kC ?_
  show wpAny _ _ (call (.ref C) []) _ _ _
  obtain ⟨bm, N, nm, qn, bs, hdct, sn, sub, ab, col, dd, k0, k1, k2, k3, k5, mN, hC, hN, hni, T⟩ := exc_obj I.kIn q
  refine wpAny_call_exc_subT F T hC hN hni (fun h' e hm => ?_) (Nat.zero_le _)
  exact mk_of I hm r h (I.hok.gone hm.new)
/-! ### isinstance by the kinds' names -/
def rIsS (K : PySem.W.Frag) : List V → Hp → VK → Prop := fun xs H Q => ∃ (x : V) (s T : String) (b : Bool), xs = [x, .ty T] ∧ TyX K H x (.type s) ∧ kitB s T = some b ∧ Q (.bl b) H
theorem call_isS {X : Cx} : CallR X (.builtin "isinstance") (rIsS X.K) := by
  rintro pins s σ H vs us Q I r ⟨x, a, T, b, rfl, h1, h2, q⟩
  exact call_isi pins s σ H _ us Q I r ⟨x, .ty T, .type a, .type T, b, rfl, .ty T, h1, kit_ty h2, q⟩
/-! ### a tuple times an int from 1 on -/
theorem tuple_once (l : Addr) (items : Array Value) (n : Nat) (dd : Option Addr) (sl : Array (Option Value)) (u : Tok) :
    Meets (Builtin.«tuple.__mul__» ⟨[.ref l, .int 1 u], []⟩) (fun _ R s => s.heap.get? l = some { cls := .type "tuple", dict := dd, data := .seq items n, slots := sl } ∧ R (.ok (.ret (Value.ref l))) s) :=
  .of_wp fun prog w A R s h => by
    obtain ⟨hp, g, d, tk, os⟩ := s
    obtain ⟨hl, h⟩ := h
    have f1 := AutoSeq1.idx_int
    have c1 : (items.isEmpty || (1 : Int) == 1) = true := by rw [Bool.or_eq_true]; exact .inr rfl
    wp_walk using wpAny_loadPart' hl
    repeat (first
      | (refine wpAny_ite_true (decide_eq_true c1) ?_; wp_walk using wpAny_loadPart' hl)
      | (rw [if_pos c1]; wp_walk using wpAny_loadPart' hl))
    exact ⟨_, rfl, h⟩
section
variable {X : Cx}
/-- t * k, k from 1 on -/
structure TimesP (K : PySem.W.Frag) (x y : V) (H : Hp) (Q : VK) : Prop where
  go : ∃ l k xs, x = .ref l ∧ y = .int k ∧ SqT K H l xs ∧ xs ≠ [] ∧ 1 ≤ k ∧ k ≤ 1000 ∧ xs.length ≤ 1000 ∧
  (k = 1 → Q (.ref l) H) ∧ (2 ≤ k → ∀ p, H p = none → Q (.ref p) (upd H p (.tup (List.replicate k.toNat xs).flatten)))
def rTimes (K : PySem.W.Frag) : R2 := fun x y H Q => TimesP K x y H Q
theorem op_times : OpR X (binaryOp .Mult) (rTimes X.K) := by
  rintro pins s σ H x y v u Q I rx ry ⟨l, k, xs, rfl, rfl, hT, ne, h1, h2, hz, q1, q2⟩
  by_cases hk : 2 ≤ k
  · exact op_repT pins s σ H _ _ v u Q I rx ry ⟨l, k, xs, rfl, rfl, hT, ne, hk, h2, hz, q2 hk⟩
  · have e : k = 1 := by omega
    subst e
    cases rx
    obtain ⟨t, rfl⟩ := ry
    obtain ⟨its, r, ⟨⟨cls, dd, data, sl⟩, ho, hc, n, hd⟩, _⟩ := I.tuple hT
    simp only at hc hd
    subst hc hd
    exact wpAny_binaryOp_repeat_ref (T := "tuple") (U := "int") (by decide) ⟨_, ho, rfl⟩ (fun s' => typeIs_int s' 1 t) noFill_tuple_mul F.fills_int_mul F.slot_int_rmul repeat_tuple F.slot_int_index.lookup
      (call_meets F.slot_int_rmul (typeIs_int s 1 t) F.entry_int_rmul (F.args_int_rmul_2 _ _) (int_rmul_tuple 1 t l its.toArray n dd sl)
        ⟨ho, rfl, ⟨_, ho, rfl⟩, call_meets F.slot_tuple_mul ⟨_, ho, rfl⟩ F.entry_tuple_mul (F.args_tuple_mul_2 _ _) (tuple_once l its.toArray n dd sl t) ⟨ho, ⟨.ref l, H, I, rfl, q1 rfl⟩⟩⟩)
/-! ### t[::-1] -/
theorem back_adjust (n : Nat) : Builtin.Slice.sliceAdjust none none (-1) (n : Int) = ((n : Int) - 1, -1) := rfl
theorem back_places (n : Nat) : Builtin.Slice.slicePlaces ((n : Int) - 1) (-1) (-1) = n := by
  unfold Builtin.Slice.slicePlaces
  rw [if_neg (by decide)]
  by_cases h : 0 < n
  · rw [if_pos (by omega), show (-(-1 : Int)) = 1 by decide, Int.ediv_one]
    omega
  · rw [if_neg (by omega)]
    omega
theorem fm_congr {α β : Type} {f g : α → Option β} : ∀ {l : List α}, (∀ a ∈ l, f a = g a) → l.filterMap f = l.filterMap g
  | [], _ => rfl
  | a :: r, h => by
    rw [List.filterMap_cons, List.filterMap_cons, h a List.mem_cons_self, fm_congr fun b hb => h b (List.mem_cons_of_mem a hb)]
theorem back_pick (xs : Array Value) : ((List.range xs.size).filterMap fun (k : Nat) => xs[(((xs.size : Int) - 1) + (k : Int) * (-1)).toNat]?).toArray = xs.toList.reverse.toArray := by
  have e : ∀ k ∈ List.range xs.size, xs[(((xs.size : Int) - 1) + (k : Int) * (-1)).toNat]? = xs[xs.size - 1 - k]? := fun k hk => by
    have := List.mem_range.mp hk
    congr 1
    omega
  rw [fm_congr e]
  have e2 : (List.range xs.size).filterMap (fun k => xs[xs.size - 1 - k]?) = ((List.range xs.size).map fun k => xs.size - 1 - k).filterMap (xs[·]?) := by rw [List.filterMap_map] <;> rfl
  rw [e2, PySem.W.krv_range, List.filterMap_reverse, PySem.W.krv_all]
section
variable {prog : Program} {w : World} {A : Around} {E : Value → Shared → Prop} {s : Shared}
theorem getItem_back {t sl : Addr} {items : Array Value} {vk : Value} {Q : Value → Shared → Prop} (ht : IsTup s.heap t items) (hs : s.heap.IsSliceOf sl .none .none vk) (pk : IsPart vk (some (-1)))
    (hsz : items.size ≤ sizeLine) (h : Q (.ref s.heap.objs.size) { s with heap := s.heap.push { cls := .type "tuple", data := .seq items.toList.reverse.toArray } }) : wpAny (model prog w) A (getItem (.ref t) (.ref sl)) Q E s := by
  obtain ⟨os, e1, e2, e3⟩ := id hs
  have ty : s.TypeIs (.ref sl) "slice" := ⟨os, e1, e2⟩
  have fits : sizeOk (.seq items.toList.reverse.toArray) := by
    show items.toList.reverse.toArray.size ≤ sizeLine
    simpa using hsz
  unfold getItem
  try with_reducible refine wpAny_holding ?_
  first | refine wpAny_bind (wpAny_pure ?_) | skip
  refine wpAny_bind (wpAny_sequenceKey ht.typeIs (by decide) ?_)
  refine wpAny_bind (wpAny_callSpecial?_slot (name := Str.ofString "__getitem__") ht.typeIs PyProof.Rows.slot_tuple_getitem (wpAny_call_entry PyProof.Rows.slot_tuple_getitem ht.typeIs entry_tuple_getitem ?_ (args_tuple_getitem _ _)))
  show wpAny _ _ (Builtin.Tuple.tupleItemsOf (.ref t) >>= _) _ _ s
  refine wpAny_bind (tupleItemsOf_ ht (wpAny_bind (wpAny_typeOf ty ?_)))
  rw [if_pos (by decide)]
  refine wpAny_bind ?_
  unfold Builtin.Slice.sliceApplied Builtin.Slice.sliceFields
  refine wpAny_bind (wpAny_bind (wpAny_field e1 e3 (x := .none) rfl (wpAny_bind (wpAny_field e1 e3 (x := .none) rfl (wpAny_bind (wpAny_field e1 e3 (x := vk) rfl (wpAny_pure ?_)))))))
  refine wpAny_bind (HT.slicePart_ pk ?_)
  show wpAny _ _ (if ((-1 : Int) == 0) = true then _ else _) _ _ s
  rw [if_neg (by decide)]
  refine wpAny_bind (slicePart_none (wpAny_bind (slicePart_none (wpAny_bind (wpAny_pure ?_)))))
  show wpAny _ _ (pure ((items.size : Int) - 1, (-1 : Int), Builtin.Slice.slicePlaces ((items.size : Int) - 1) (-1) (-1))) _ _ s
  rw [back_places]
  refine wpAny_pure ?_
  have no : ¬ (((items.size : Int) - 1 == 0 && (-1 : Int) == 1 && items.size == items.size) = true) := by
    intro q
    rw [Bool.and_eq_true, Bool.and_eq_true] at q
    exact absurd q.1.2 (by decide)
  show wpAny _ _ (if ((items.size : Int) - 1 == 0 && (-1 : Int) == 1 && items.size == items.size) = true then _ else _) _ _ s
  rw [if_neg no, back_pick]
  first
    | exact wpAny_bind (m := Builtin.Tuple.tupleExact _) (wpAny_newObj_type (wpAny_pure ⟨_, rfl, wpAny_pure h⟩) fits)
    | exact wpAny_bind (m := Builtin.Tuple.tupleExact _) (wpAny_newObj_type (wpAny_bind (wpAny_pure (wpAny_pure ⟨_, rfl, wpAny_pure h⟩))) fits)
    | exact wpAny_bind (wpAny_bind (m := Builtin.Tuple.tupleExact _) (wpAny_newObj_type (wpAny_pure (wpAny_pure ⟨_, rfl, wpAny_pure h⟩)) fits))
    | exact wpAny_bind (wpAny_bind (m := Builtin.Tuple.tupleExact _) (wpAny_newObj_type (wpAny_pure ⟨_, rfl, wpAny_pure h⟩) fits))
end
/-- t[::-1]: a new tuple -/
def tBack (K : PySem.W.Frag) (te : TE) : TE := fun σ H Q => te σ H fun x H1 => ∃ a xs, x = .ref a ∧ SqT K H1 a xs ∧ ∀ p, H1 p = none → Q (.ref p) (upd H1 p (.tup xs.reverse))
theorem pe_back {e : Expr} {te : TE} {k : Nat} {p1 p2 p3 pos : Pos} (he : PE X e te) : PE X (.Subscript e (.Slice none none (some (.UnaryOp .USub (.Constant (.int 1) k p1) p2)) p3) pos) (tBack X.K te) := by
  constructor
  intro pins s σ H Q I h
  have st : PO X (some (.UnaryOp .USub (.Constant (.int 1) k p1) p2)) (tPart (tUn (rU fun i => .int (-i)) (tC (.int 1)))) := po_some (pe_un un_neg pe_int)
  refine Subscript_ (thn (he.run pins s σ H _ I h) ?_)
  rintro v s1 ⟨x, H1, I1, r1, a, xs, rfl, hx, q⟩
  cases r1
  refine wpAny_Slice ?_
  rw [evalPart_none]
  refine wpAny_pure (wpAny_pure (thn (st.run pins s1 σ H1 (fun o G => o = some (-1) ∧ G = H1) I1 ⟨1, rfl, -1, rfl, rfl, rfl⟩) ?_))
  rintro vs s4 ⟨o, H4, I4, ps, rfl, rfl⟩
  have I5 : Inv X pins σ H4 { s4 with heap := s4.heap.push { cls := .type "slice", data := .fields #[.none, .none, vs] } } := I4.kept (t' := s4.toks) fun b ob z => Heap.get?_push_of_some _ z
  obtain ⟨its, r, ht, hz⟩ := I5.tuple hx
  have hlen := r.length
  show wpAny (model X.prog X.w) X.A (subscriptTail e (.Slice none none (some (.UnaryOp .USub (.Constant (.int 1) k p1) p2)) p3) (.ref a) (.ref s4.heap.objs.size)) (EP X pins σ Q) X.xe _
  refine tail_any (ops := [.ref a, .ref s4.heap.objs.size]) ht.typeIs PyProof.Rows.slot_tuple_getitem.lookup ?_ (by with_unfolding_all rfl)
  refine getItem_back ht (Heap.IsSliceOf.new _ .none .none vs) ps (by rw [List.size_toArray]; omega) ?_
  refine ⟨.ref _, _, I5.laid (t' := s4.toks) (o := .tup xs.reverse) (fun b ob z => Heap.get?_push_of_some _ z) (Nat.le_refl _) ?_, rfl, q _ (I5.hok.fresh (Nat.le_refl _))⟩
  exact ⟨by rw [List.length_reverse]; exact hz, _, r.reverse, IsTup.new _ _⟩
end
/-- a built-in class by its name -/
theorem pe_ty {X : Cx} (T : String) {x : Str} {pos : Pos} (hg : Gl X x) (hm : X.mg x = none) (hv : bootBuiltins x = some (.type T)) (hn : x ≠ "__name__" := by decide) (hd : (x == ("__debug__" : Str)) = false := by decide) : PE X (.Name x pos) (tC (.ty T)) := pe_bltn hg hm hv rfl hn hd
end Hd

set_option maxHeartbeats 4000000
/-! own error classes: with one field that their __init__ stores; without an __init__ -/
namespace Hd
open PySem PySem.Spec PyProof.Rows L2 Evl
/-- __init__ of such a class: self.fld = x -/
def spInit (C : Addr) (fld : Str) : Sp := fun vs H Q _ => ∃ a x, vs = [.ref a, x] ∧ H a = some (exo a C none) ∧ ∀ dx, H dx = none → dx ≠ a → Q .non (upd (upd H dx (exd dx [(fld, x)])) a (exo a C (some dx)))
structure ErrF (P : Program) (w : World) (K : PySem.W.Frag) (mg : Str → Option Value) (base : Heap) (x fld : Str) (C : Addr) : Prop where
  T : OexC K C
  F : XfC K C
  no : PySem.W.findIn K (.ref C) fld = some none
  m : mg x = some (.ref C)
  ini : ∃ (fI : Addr) (fd : FuncData), PySem.W.findIn K (.ref C) "__init__" = some (some (.ref fI)) ∧ PySem.W.typeIn K (.ref fI) = some (.type "function") ∧ FnOk P w K mg base CX0 1 fI fd ["self", fld] (spInit C fld) ∧ Binds K fd ["self", fld] []
structure ErrP (K : PySem.W.Frag) (mg : Str → Option Value) (x : Str) (C : Addr) : Prop where
  ex : PySem.W.excIn K C [.type "ValueError", .type "Exception", .type "BaseException", .type "object"] "ValueError.__new__" = true
  kC : PySem.W.keepIn K (.ref C) = true
  exC : PySem.W.subIn K (.ref C) (.type "BaseException") = some true
  tyC : PySem.W.typeIn K (.ref C) = some (.type "type")
  m : mg x = some (.ref C)
section
variable {X : Cx} {C : Addr} {x fld : Str} {W : WX}
def tRaiseF (C : Addr) (fld : Str) (W : WX) (ta : TA) : TS := fun _ σ H => ta σ H fun vs H1 => ∃ x, vs = [x] ∧ ∀ d H2, Ex H1 H2 → H1 d = none → H2 d = some (.xd [(fld, x)]) → W (.ref C) (some d) σ H2
/-- the same arguments, told by a stronger wish -/
def tByA (ta : TA) : TA := fun σ H Q => ∃ Q0, ta σ H Q0 ∧ ∀ vs H1, Q0 vs H1 → Q vs H1
theorem pa_by {es : List Expr} {ta : TA} (h : PA X es ta) : PA X es (tByA ta) := by
  refine ⟨fun pos pins s σ H Q I hq => ?_⟩
  obtain ⟨Q0, h0, h1⟩ := hq
  exact thn (h.run pos pins s σ H Q0 I h0) fun us s1 ⟨vs, H1, I1, r, q⟩ => ⟨vs, H1, I1, r, h1 vs H1 q⟩
/-- raise X(e) -/
theorem ps_raiseF {e : Expr} {ta : TA} {p pos pos2 : Pos} (Er : ErrF X.prog X.w X.K X.mg X.base x fld C) (hc : X.calm = true) (hr : Room 2 X.A) (tk : Takes X W) (hg : Gl X x) (ha : PA X [e] ta) (hdb : (x == ("__debug__" : Str)) = false := by decide)
    (he : starEach (e :: []) X.env = (false, eval e X.env) :: starEach [] X.env := by rfl) (hpl : (backTo pos (starEach [] X.env)).any (·.1) = false := by rfl) :
    PS X (.Raise (some (.Call (.Name x p) [e] [] pos)) none pos2) (tRaiseF C fld W ta) := by
  obtain ⟨fI, fd, h1, h2, h3, h4⟩ := Er.ini
  have mk : PMk X (.Call (.Name x p) [e] [] pos) _ := pmk_oex (dvs := []) (ds := []) Er.T h1 h2 h3 hr h4 .nil pass0 hg Er.m (pa_by ha) hdb he hpl
  have go := ps_raise (pos := pos2) hc tk mk
  refine ⟨fun pins s σ H D I h => go.run pins s σ H D I ⟨_, h, ?_⟩⟩
  rintro vs H1 ⟨y, rfl, q⟩
  refine ⟨by simp, fun a na => ⟨a, y, rfl, upd_same, fun dx nd ne => ⟨rfl, dx, [(fld, y)], upd_same, ?_, ?_, q dx _ (fun b o hb => ?_) ?_ upd_same⟩⟩⟩
  · rw [upd_ne ne, upd_same]
  · rw [upd_ne ne] at nd
    exact nd
  · have n1 : b ≠ a := ne_of_none hb na
    have n2 : b ≠ dx := fun z => by
      rw [z, ← upd_ne (H := H1) (o := exo a C none) ne, nd] at hb
      cases hb
    rw [upd_ne n2, del_ne n1, upd_ne n1, upd_ne n2, upd_ne n1]
    exact hb
  · rw [upd_ne ne] at nd
    exact nd
/-- raise X() -/
theorem ps_raiseP {p pos pos2 : Pos} (Er : ErrP X.K X.mg x C) (hc : X.calm = true) (tk : Takes X W) (hg : Gl X x) (hdb : (x == ("__debug__" : Str)) = false := by decide) :
    PS X (.Raise (some (.Call (.Name x p) [] [] pos)) none pos2) (fun _ σ H => W (.ref C) none σ H) :=
  ps_raise hc tk (pmk_own0 PySem.F.excBase_ValueError Er.ex Er.m Er.kC (raises_own Er.exC Er.tyC) hg hdb)
end
end Hd

set_option maxHeartbeats 4000000
/-! for i, x in enumerate(t), t a tuple -/
namespace Hd
open PySem PySem.Spec PyProof.Rows L2
theorem meets_enum1 {v : Value} {o : Obj} {Z : Heap → Prop} (B : Begins v o Z) :
    Meets (Builtin.«enumerate.__new__» ⟨[.type "enumerate", v], []⟩) (fun _ R s => Z s.heap ∧
      R (.ok (.ret (.ref (s.heap.push o).objs.size))) { s with heap := (s.heap.push o).push { cls := .type "enumerate", data := .fields #[.none, .bool false, .ref s.heap.objs.size, rawInt 0, .none, .none] } }) :=
  .of_wp fun prog w A R s h => by
    obtain ⟨hp, g, d, tk, os⟩ := s
    obtain ⟨z, q⟩ := h
    have hsub := sub_enumerate
    have it1 : ∀ {A' : Around} {E : Value → Shared → Prop} {Q : Value → Shared → Prop}, Q (.ref hp.objs.size) ⟨hp.push o, g, d, tk, os⟩ → wpAny (model prog w) A' (pyIter v) Q E ⟨hp, g, d, tk, os⟩ :=
      fun k => B.iter prog w _ _ ⟨hp, g, d, tk, os⟩ _ z k
    wp_walk using it1
    refine wpAny_stack_any fun st => wpAny_pure ?_
    split
    · rename_i c _ _ _ _ _
      cases (c == Value.type "enumerate") <;> (wp_walk using it1; exact ⟨_, rfl, q⟩)
    · wp_walk using it1
      exact ⟨_, rfl, q⟩
section
variable {prog : Program} {w : World} {A : Around} {E : Value → Shared → Prop} {s : Shared}
theorem enum_of {v : Value} {o : Obj} {Z : Heap → Prop} {Q : Value → Shared → Prop} (B : Begins v o Z) (z : Z s.heap)
    (k : ∀ g, IsEnum g (s.heap.objs.size + 1) s.heap.objs.size 0 .none → g.get? s.heap.objs.size = some o → (∀ b u, s.heap.get? b = some u → g.get? b = some u) → Q (.ref (s.heap.objs.size + 1)) { s with heap := g }) :
    wpAny (model prog w) A (call (.type "enumerate") [v]) Q E s := by
  refine callType_new F.called_enumerate (by decide) (F.typeCall_enumerate_1 _) (F.newCall_enumerate_1 _) (fun obj => F.args_object_init_2 obj _) F.entry_enumerate_new (meets_enum1 B) ⟨z, ?_⟩
  have sz : (s.heap.push o).objs.size = s.heap.objs.size + 1 := Heap.size_push ..
  have at1 := Heap.get?_push_size (s.heap.push o) (o := { cls := .type "enumerate", data := .fields #[.none, .bool false, .ref s.heap.objs.size, rawInt 0, .none, .none] }) rfl
  rw [sz] at at1
  show _ ∧ _
  rw [sz]
  exact ⟨⟨_, at1, rfl⟩, k _ at1 (Heap.get?_push_of_some _ (Heap.get?_push_size _ B.free)) fun b u e => Heap.get?_push_of_some _ (Heap.get?_push_of_some _ e)⟩
end
/-- the tuple at a as it stands, each item in a new pair -/
def Itu (K : PySem.W.Frag) (a : Addr) : It :=
  ⟨fun i H => ∃ (xs : List V) (x : V), SqT K H a xs ∧ xs[i]? = some x, fun i H v G => ∃ T x, v = .ref T ∧ H T = none ∧ G = upd H T (.tup [.int (i : Nat), x]) ∧ ∀ xs, SqT K H a xs → xs[i]? = some x, fun i H => ∃ xs : List V, SqT K H a xs ∧ xs.length ≤ i⟩
theorem turn_enumT {P : Program} {w : World} {K : PySem.W.Frag} {elts : List Expr} {kk : Nat} {tpos : Pos} (a e it : Addr) :
    Turn P w K (.Tuple elts kk tpos) (Itu K a) [e, it] e (fun i h => (∃ old, IsEnum h e it ((i : Nat) : Int) old) ∧ h.IsTupleIter it a i ∧ e ≠ it) where
  mem := by simp
  obj := fun i h st b hb => by
    obtain ⟨⟨old, he⟩, ⟨o, ho, hc, hd⟩, _⟩ := st
    rcases List.mem_cons.mp hb with z | z
    · rw [z]; exact ⟨_, he, fun v q => nomatch q⟩
    · have z' : b = it := by simpa using z
      exact ⟨o, by rw [z']; exact ho, fun v q => by rw [hd] at q; cases q⟩
  keep := fun i h h' st k => ⟨let ⟨old, he⟩ := st.1; ⟨old, k e (by simp) _ he⟩, st.2.1.at fun o q => k it (by simp) o q, st.2.2⟩
  item := by
    intro X hP hw hK hc i pins s σ H E I hf st hg
    subst hP hw hK
    obtain ⟨⟨old, he⟩, hit, hne⟩ := st
    obtain ⟨xs, x, hq, hx⟩ := hg
    obtain ⟨its, rv, p, hz⟩ := I.tuple hq
    obtain ⟨u, hu, ru⟩ := rv.get hx
    have hel : e < s.heap.objs.size := Heap.lt_size he
    have hil : it < s.heap.objs.size := by obtain ⟨_, q, _⟩ := hit; exact Heap.lt_size q
    have hlt : i < its.toArray.size := by simpa using (List.getElem?_eq_some_iff.mp hu).1
    have ta : s.heap.IsTuple a its.toArray := p
    have hai : a ≠ it := fun z => by
      obtain ⟨o1, e1, e2, _⟩ := ta
      obtain ⟨o2, e3, e4, _⟩ := hit
      rw [z, e3] at e1
      cases e1
      rw [e4] at e2
      exact absurd (Value.type.inj e2) (by decide)
    have hae : e ≠ a := fun z => by
      obtain ⟨o1, e1, e2, _⟩ := ta
      rw [← z] at e1
      have e3 : s.heap.get? e = some _ := he
      rw [e3] at e1
      cases e1
      exact absurd (Value.type.inj e2) (by decide)
    refine wpAny_pyNext_enum_itemD (Draws.tuple (A := X.A.in1) (I.ok.hd hc) it a hai its.toArray) he ⟨hit, ta⟩ hlt hne (by simp; exact ⟨hne, hae⟩) fun y h' tk hy ho st' hT hsz hk => ?_
    have ey : y = u := by
      have h1 : its.toArray[i]? = some y := hy
      rw [List.getElem?_toArray, hu] at h1
      exact (Option.some.inj h1).symm
    subst ey
    refine ⟨_, rfl, wpAny_letOwnedTupleGo_enum (s := { s with heap := h', toks := tk + 1 }) ho fun h2 he2 sb => ?_⟩
    have hT2 : h2.get? s.heap.objs.size = some { cls := .type "tuple", data := .seq #[.int i tk, y] } := (sb.2 _ (Nat.ne_of_gt hel)).trans hT
    have new : ObjOk X.prog X.w (upd H s.heap.objs.size (.tup [.int (i : Nat), x])) h2 s.heap.objs.size (.tup [.int (i : Nat), x]) :=
      ⟨by show 2 ≤ sizeLine; decide, [.int i tk, y], .cons ⟨_, rfl⟩ (.cons ru .nil), ⟨_, hT2, rfl, _, rfl⟩⟩
    have off : ∀ {b}, b ∉ [e, it] → b ≠ e ∧ b ≠ it := fun hb => ⟨fun z => hb (by simp [z]), fun z => hb (by simp [z])⟩
    have J : Inv X pins σ (upd H s.heap.objs.size (.tup [.int (i : Nat), x])) { s with heap := h2, toks := tk + 1 } :=
      I.turnedNew (ch := [e, it]) (fun b ob hb q => (sb.2 b (off hb).1).trans (hk b ob (off hb).1 (off hb).2 q)) hf (Nat.le_refl _) new
    refine ⟨.ref s.heap.objs.size, _, J, rfl, ⟨_, x, rfl, I.hok.fresh (Nat.le_refl _), rfl, fun ys hy => by rw [I.tuple_inj hy hq]; exact hx⟩, ⟨⟨y, ?_⟩, st'.1.at fun o q => (sb.2 it (Ne.symm hne)).trans q, hne⟩, fun b hb => ?_⟩
    · rw [show ((i + 1 : Nat) : Int) = (i : Int) + 1 by omega]
      exact he2
    · have hb' : b < s.heap.objs.size := by
        rcases List.mem_cons.mp hb with z | z
        · rw [z]; exact hel
        · rw [show b = it by simpa using z]; exact hil
      rw [upd_ne (Nat.ne_of_lt hb')]
      exact (hf b hb).1
  done := by
    intro X hP hw hK hc i pins s σ H E I hf st hg
    subst hP hw hK
    obtain ⟨⟨old, he⟩, hit, hne⟩ := st
    obtain ⟨xs, hq, hx⟩ := hg
    obtain ⟨its, rv, p, hz⟩ := I.tuple hq
    obtain ⟨f0, f1, f2, f3, f4, f5⟩ := hf it (by simp)
    have hT : s.TypeIs (.ref e) "enumerate" := ⟨_, he, rfl⟩
    have hl := rv.length
    have ta : s.heap.IsTuple a its.toArray := p
    unfold pyNext
    refine wpAny_bind (wpAny_attempt (wpAny_callSpecial?_slot (name := Str.ofString "__next__") hT F.slot_enumerate_next (wpAny_call_entry F.slot_enumerate_next hT F.entry_enumerate_next ?_ (F.args_enumerate_next_1 _))))
    show wpAny _ _ (field (.ref e) 2 >>= _) _ _ _
    refine wpAny_bind (wpAny_field he rfl (x := .ref it) rfl (wpAny_bind (wpAny_nextOf_tuple_end (I.ok.hd hc) hit ta (by simp; omega) fun h' x eb hx' => ?_)))
    obtain ⟨o, ho, hc'⟩ := hx'
    refine wpAny_bind (wpAny_isInstance (T := "StopIteration") (b := true) ⟨o, ho, hc'⟩ isSubtype_stop ?_)
    exact wpAny_pure ⟨rfl, I.turned (t' := s.toks) (fun b o hb q => eb b o hb q) f0 f1 f3 f4 f5⟩
  self := fun A i s Q E st h => let ⟨⟨_, he⟩, _⟩ := st; wpAny_pyIter_enum he h
def iEnumT (K : PySem.W.Frag) (ta : TA) : TI := fun σ H R => ta σ H fun vs H1 => ∃ a xs, vs = [.ref a] ∧ SqT K H1 a xs ∧ R (Itu K a) H1
theorem pi_enumT {X : Cx} {e : Expr} {ta : TA} {p pos tpos : Pos} {elts : List Expr} {kk : Nat} (hg : Gl X "enumerate") (hm : X.mg "enumerate" = none) (ha : PA X [e] ta) (hs : starEach [e] X.env = [(false, eval e X.env)] := by rfl) :
    PI X (.Tuple elts kk tpos) (.Call (.Name "enumerate" p) [e] [] pos) (iEnumT X.K ta) := by
  constructor
  intro pins s σ H R I h
  refine Call_ (ld_blt I hg hm boot_enumerate (PyProof.Rows.callWith_type1 (thn (ha.run pos pins s σ H _ I h) ?_) hs rfl))
  rintro us s1 ⟨vs, H1, I1, r1, a, xs, rfl, hq, q⟩
  cases r1 with
  | cons r rr =>
    cases rr
    cases r
    obtain ⟨its, rv, p', hz⟩ := I1.tuple hq
    refine enum_of (begins_tuple a its.toArray) p' fun g he hit hk => wpAny_pyIter_enum he ?_
    have J : Inv X pins σ H1 { s1 with heap := g } := I1.kept (t' := s1.toks) hk
    refine ⟨s1.heap.objs.size + 1, [s1.heap.objs.size + 1, s1.heap.objs.size], _, _, H1, rfl, J, turn_enumT a (s1.heap.objs.size + 1) s1.heap.objs.size, ⟨⟨.none, he⟩, ⟨_, hit, rfl, rfl⟩, Nat.succ_ne_self _⟩, fun b hb => ?_, q⟩
    have hle : s1.heap.objs.size ≤ b := by
      rcases List.mem_cons.mp hb with z | z
      · rw [z]
        exact Nat.le_add_right _ _
      · have z' : b = s1.heap.objs.size := by simpa using z
        rw [z']
        exact Nat.le_refl _
    exact I1.fpOk hle (I1.hok.fresh hle)
theorem for_enumT {K : PySem.W.Frag} {a : Addr} {xs : List V} {g : TG} {tb : TS} {D : Ends} {σ : L2.St} {H : Hp} (Pv : Nat → L2.St → Hp → Prop) (h0 : Pv 0 σ H) (hl : ∀ i σ H, i ≤ xs.length → Pv i σ H → SqT K H a xs)
    (hs : ∀ i x σ H T, xs[i]? = some x → Pv i σ H → H T = none → g (.ref T) σ (upd H T (.tup [.int (i : Nat), x])) fun σ2 H2 => tb { D with nx := Pv (i + 1), ct := Pv (i + 1), bk := D.nx } σ2 H2) (hd : ∀ σ H, Pv xs.length σ H → D.nx σ H) :
    ∃ W : Nat → Nat → L2.St → Hp → Prop, (∃ m, W 0 m σ H) ∧ ∀ i m σ H, W i m σ H →
      ((Itu K a).stop i H ∧ D.nx σ H) ∨ ((Itu K a).go i H ∧ ∃ N : L2.St → Hp → Prop, (∀ σ' H', N σ' H' → ∃ m', m' < m ∧ W (i + 1) m' σ' H') ∧ ∀ x H', (Itu K a).yld i H x H' → g x σ H' fun σ2 H2 => tb { D with nx := N, ct := N, bk := D.nx } σ2 H2) := by
  refine ⟨fun i m σ H => m + i = xs.length ∧ Pv i σ H, ⟨xs.length, rfl, h0⟩, fun i m σ G w => ?_⟩
  obtain ⟨em, p⟩ := w
  have q := hl i σ G (by omega) p
  by_cases lt : i < xs.length
  · refine .inr ⟨⟨xs, xs[i], q, List.getElem?_eq_getElem lt⟩, Pv (i + 1), fun σ' G' p' => ⟨m - 1, by omega, by omega, p'⟩, ?_⟩
    rintro _ _ ⟨T, y, rfl, nT, rfl, at_⟩
    exact hs i y σ G T (at_ xs q) p nT
  · have e : i = xs.length := by omega
    subst e
    exact .inl ⟨⟨xs, q, Nat.le_refl _⟩, hd σ G p⟩
/-- a def as the callers use it -/
structure Fn (P : Program) (w : World) (K : PySem.W.Frag) (mg : Str → Option Value) (base : Heap) (CX : CXT) (k : Nat) (x : Str) (ps : List Str) (sp : Sp) (f : Addr) (fd : FuncData) : Prop where
  G : FnOk P w K mg base CX k f fd ps sp
  m : mg x = some (.ref f)
  k : PySem.W.keepIn K (.ref f) = true
  b : Binds K fd ps []
/-- what is let out by a def that is called, let out by this one too -/
theorem passX {X : Cx} {E : XK} (own : X.stack = X.env :: X.outer) (frm : X.env.frame = some X.env.locals) (hex : X.ex = []) {E₁ : Value → Shared → Prop}
    (hx : X.xe = fun e s' => wpAny (model X.prog X.w) X.A (leaving X.env e) (fun _ s'' => L2.CX X.prog X.w X.outer X.H_0 X.s_0 E e s'') E₁ s') : Passes (L2.CX X.prog X.w) X E :=
  passes_call (takes_of own frm hex hx) fun _ _ _ _ h => h
end Hd

set_option maxHeartbeats 4000000
/-! sets of cells, their numbers -/
namespace Hd
/-- how many sets of k there are of m -/
def nck : Nat → Nat → Nat
  | _, 0 => 1
  | 0, _ + 1 => 0
  | m + 1, k + 1 => nck m k + nck m (k + 1)
/-- the sets of k of the cells c, .., c + m - 1, ascending -/
def setsN : Nat → Nat → Nat → List (List Nat)
  | _, 0, _ => [[]]
  | 0, _ + 1, _ => []
  | m + 1, k + 1, c => (setsN m k (c + 1)).map (c :: ·) ++ setsN m (k + 1) (c + 1)
theorem setsN_len : ∀ m k c, (setsN m k c).length = nck m k
  | 0, 0, _ => rfl
  | _ + 1, 0, _ => rfl
  | 0, _ + 1, _ => rfl
  | m + 1, k + 1, c => by
    show ((setsN m k (c + 1)).map (c :: ·) ++ setsN m (k + 1) (c + 1)).length = nck m k + nck m (k + 1)
    rw [List.length_append, List.length_map, setsN_len m k, setsN_len m (k + 1)]
/-- the set that a number draws -/
def drawN : Nat → Nat → Nat → Nat → List Nat
  | _, 0, _, _ => []
  | 0, _ + 1, _, _ => []
  | m + 1, k + 1, a, c => if a < nck m k then c :: drawN m k a (c + 1) else drawN m (k + 1) (a - nck m k) (c + 1)
theorem drawN_at : ∀ m k a c, a < nck m k → (setsN m k c)[a]? = some (drawN m k a c)
  | 0, 0, a, c, h => by
    have e : a = 0 := by simp [nck] at h; omega
    rw [e] <;> rfl
  | m + 1, 0, a, c, h => by
    have e : a = 0 := by simp [nck] at h; omega
    rw [e] <;> rfl
  | 0, _ + 1, a, c, h => by simp [nck] at h
  | m + 1, k + 1, a, c, h => by
    have h' : a < nck m k + nck m (k + 1) := h
    show ((setsN m k (c + 1)).map (c :: ·) ++ setsN m (k + 1) (c + 1))[a]? = some (if a < nck m k then c :: drawN m k a (c + 1) else drawN m (k + 1) (a - nck m k) (c + 1))
    by_cases ha : a < nck m k
    · rw [if_pos ha, List.getElem?_append_left (by rw [List.length_map, setsN_len]; exact ha), List.getElem?_map, drawN_at m k a (c + 1) ha] <;> rfl
    · rw [if_neg ha, List.getElem?_append_right (by rw [List.length_map, setsN_len]; omega), List.length_map, setsN_len]
      exact drawN_at m (k + 1) (a - nck m k) (c + 1) (by omega)
theorem drawN_len : ∀ m k a c, a < nck m k → (drawN m k a c).length = k
  | m, 0, a, c, _ => by cases m <;> rfl
  | 0, _ + 1, a, c, h => by simp [nck] at h
  | m + 1, k + 1, a, c, h => by
    have h' : a < nck m k + nck m (k + 1) := h
    show (if a < nck m k then c :: drawN m k a (c + 1) else drawN m (k + 1) (a - nck m k) (c + 1)).length = k + 1
    by_cases ha : a < nck m k
    · rw [if_pos ha, List.length_cons, drawN_len m k a (c + 1) ha]
    · rw [if_neg ha, drawN_len m (k + 1) (a - nck m k) (c + 1) (by omega)]
theorem nck_zero (m : Nat) : nck m 0 = 1 := by cases m <;> rfl
theorem nck_pos : ∀ {m k}, k ≤ m → 0 < nck m k
  | m, 0, _ => by rw [nck_zero]; exact Nat.one_pos
  | 0, k + 1, h => by omega
  | m + 1, k + 1, h => by
    have := nck_pos (m := m) (k := k) (by omega)
    show 0 < nck m k + nck m (k + 1)
    omega
theorem nck_out : ∀ {m k}, m < k → nck m k = 0
  | m, 0, h => by omega
  | 0, k + 1, _ => rfl
  | m + 1, k + 1, h => by
    show nck m k + nck m (k + 1) = 0
    rw [nck_out (show m < k by omega), nck_out (show m < k + 1 by omega)]
theorem comb_small : ∀ n k : Fin 13, PySem.W.mcComb ((n : Nat) : Int) ((k : Nat) : Int) = ((nck n k : Nat) : Int) := by decide +kernel
theorem comb_bin {n k : Nat} (hn : n ≤ 12) (hk : k ≤ 12) : PySem.W.mcComb (n : Int) (k : Int) = (nck n k : Nat) := comb_small ⟨n, by omega⟩ ⟨k, by omega⟩
/-- ascending from c on, below c + m -/
def asc : Nat → Nat → List Nat → Bool
  | _, _, [] => true
  | c, t, x :: r => decide (c ≤ x) && (decide (x < t) && asc (x + 1) t r)
theorem setsN_asc : ∀ m k c l, l ∈ setsN m k c → l.length = k ∧ asc c (c + m) l = true
  | 0, 0, c, l, h => by
    have e : l = [] := by simpa [setsN] using h
    rw [e] <;> exact ⟨rfl, rfl⟩
  | m + 1, 0, c, l, h => by
    have e : l = [] := by simpa [setsN] using h
    rw [e] <;> exact ⟨rfl, rfl⟩
  | 0, _ + 1, c, l, h => by simp [setsN] at h
  | m + 1, k + 1, c, l, h => by
    have h' : l ∈ (setsN m k (c + 1)).map (c :: ·) ++ setsN m (k + 1) (c + 1) := h
    rcases List.mem_append.mp h' with h1 | h1
    · obtain ⟨r, hr, e⟩ := List.mem_map.mp h1
      subst e
      obtain ⟨l1, a1⟩ := setsN_asc m k (c + 1) r hr
      refine ⟨by simp [l1], ?_⟩
      show (decide (c ≤ c) && (decide (c < c + (m + 1)) && asc (c + 1) (c + (m + 1)) r)) = true
      rw [decide_eq_true (Nat.le_refl c), decide_eq_true (show c < c + (m + 1) by omega), show c + (m + 1) = c + 1 + m by omega, a1] <;> rfl
    · obtain ⟨l1, a1⟩ := setsN_asc m (k + 1) (c + 1) l h1
      refine ⟨l1, ?_⟩
      cases l with
      | nil => rfl
      | cons x r =>
        have a2 : (decide (c + 1 ≤ x) && (decide (x < c + 1 + m) && asc (x + 1) (c + 1 + m) r)) = true := a1
        rw [Bool.and_eq_true, Bool.and_eq_true] at a2
        have h1 := of_decide_eq_true a2.1
        show (decide (c ≤ x) && (decide (x < c + (m + 1)) && asc (x + 1) (c + (m + 1)) r)) = true
        rw [show c + (m + 1) = c + 1 + m by omega, decide_eq_true (show c ≤ x by omega), a2.2.1, a2.2.2] <;> rfl
/-- the number of the sets ahead: those that go on with lesser cells, from c up to x, k more behind each; t the cells -/
def ahead (t k : Nat) : Nat → Nat → Nat
  | _, 0 => 0
  | c, n + 1 => nck (t - c - 1) k + ahead t k (c + 1) n
/-- the number that draws a set: from c on -/
def coinN (t : Nat) : Nat → List Nat → Nat
  | _, [] => 0
  | c, x :: r => ahead t r.length c (x - c) + coinN t (x + 1) r
theorem coinN_at : ∀ m k a c, a < nck m k → coinN (c + m) c (drawN m k a c) = a
  | 0, 0, a, c, h => by
    have e : a = 0 := by simp [nck] at h; omega
    rw [e] <;> rfl
  | m + 1, 0, a, c, h => by
    have e : a = 0 := by simp [nck] at h; omega
    rw [e] <;> rfl
  | 0, _ + 1, a, c, h => by simp [nck] at h
  | m + 1, k + 1, a, c, h => by
    have h' : a < nck m k + nck m (k + 1) := h
    show coinN (c + (m + 1)) c (if a < nck m k then c :: drawN m k a (c + 1) else drawN m (k + 1) (a - nck m k) (c + 1)) = a
    by_cases ha : a < nck m k
    · rw [if_pos ha]
      show ahead (c + (m + 1)) (drawN m k a (c + 1)).length c (c - c) + coinN (c + (m + 1)) (c + 1) (drawN m k a (c + 1)) = a
      rw [Nat.sub_self, show c + (m + 1) = c + 1 + m by omega, coinN_at m k a (c + 1) ha]
      show 0 + a = a
      omega
    · rw [if_neg ha]
      have hb : a - nck m k < nck m (k + 1) := by omega
      have ih := coinN_at m (k + 1) (a - nck m k) (c + 1) hb
      have hl := drawN_len m (k + 1) (a - nck m k) (c + 1) hb
      have hm := (setsN_asc m (k + 1) (c + 1) _ (List.mem_of_getElem? (drawN_at m (k + 1) (a - nck m k) (c + 1) hb))).2
      cases e : drawN m (k + 1) (a - nck m k) (c + 1) with
      | nil => rw [e] at hl; cases hl
      | cons x r =>
        rw [e] at ih hl hm
        have a2 : (decide (c + 1 ≤ x) && (decide (x < c + 1 + m) && asc (x + 1) (c + 1 + m) r)) = true := hm
        rw [Bool.and_eq_true] at a2
        have h1 := of_decide_eq_true a2.1
        have hr : r.length = k := by simpa using hl
        have ih' : ahead (c + 1 + m) r.length (c + 1) (x - (c + 1)) + coinN (c + 1 + m) (x + 1) r = a - nck m k := ih
        show ahead (c + (m + 1)) r.length c (x - c) + coinN (c + (m + 1)) (x + 1) r = a
        rw [show x - c = (x - (c + 1)) + 1 by omega, show c + (m + 1) = c + 1 + m by omega]
        show nck (c + 1 + m - c - 1) r.length + ahead (c + 1 + m) r.length (c + 1) (x - (c + 1)) + coinN (c + 1 + m) (x + 1) r = a
        rw [show c + 1 + m - c - 1 = m by omega, hr] at *
        omega
/-! ### the law's own way to the sets -/
/-- a set gone on with each greater cell -/
def lastN (l : List Nat) : Nat := l.getLast?.getD 0
def goesOn (l : List Nat) (c : Nat) : Bool := l.isEmpty || decide (lastN l < c)
def extN (n : Nat) (l : List Nat) : List (List Nat) := ((List.range n).filter (goesOn l)).map fun c => l ++ [c]
def lawSets (n : Nat) : Nat → List (List Nat)
  | 0 => [[]]
  | t + 1 => (lawSets n t).flatMap (extN n)
theorem lawSets_small : ∀ n k : Fin 13, lawSets n k = setsN n k 0 := by decide +kernel
theorem lawSets_eq {n k : Nat} (hn : n ≤ 12) (hk : k ≤ 12) : lawSets n k = setsN n k 0 := lawSets_small ⟨n, by omega⟩ ⟨k, by omega⟩
theorem nck_small : ∀ n k : Fin 13, nck n k ≤ 924 := by decide +kernel
theorem nck_le {n k : Nat} (hn : n ≤ 12) (hk : k ≤ 12) : nck n k ≤ 924 := nck_small ⟨n, by omega⟩ ⟨k, by omega⟩
theorem lawSets_len {n k : Nat} (hn : n ≤ 12) (hk : k ≤ 12) : (lawSets n k).length = nck n k := by rw [lawSets_eq hn hk, setsN_len]
/-- the first turns are no longer than all -/
theorem flat_take {α β : Type} (f : α → List β) : ∀ (l : List α) (i : Nat), ((l.take i).flatMap f).length ≤ (l.flatMap f).length
  | [], i => by simp
  | a :: r, 0 => Nat.zero_le _
  | a :: r, i + 1 => by
    have ih := flat_take f r i
    rw [List.take_succ_cons, List.flatMap_cons, List.flatMap_cons, List.length_append, List.length_append]
    omega
end Hd

set_option maxHeartbeats 4000000
/-! generator expressions whose elements call: the frame's context, its start -/
namespace Hd
open PySem PySem.Spec PyProof.Rows L2
/-- a generator expression's own names -/
structure GenOk (N : List Str) (sc scope : Scope) (own : List (Str × Nat)) : Prop where
  blk : BlkOk N sc scope own
  co : scope.isCoroutine = false
  nocell : ∀ y ∈ scope.names, y.2 ≠ .cell
  dot : scope.names.lookup (".0" : Str) = some NameKind.local
def genB (N : List Str) (sc scope : Scope) (own : List (Str × Nat)) : Bool := blkC N sc scope own && (!scope.isCoroutine && ((scope.names.all fun y => !decide (y.2 = .cell)) && decide (scope.names.lookup (".0" : Str) = some NameKind.local)))
theorem genOk_by {N : List Str} {sc scope : Scope} {own : List (Str × Nat)} (h : genB N sc scope own = true) : GenOk N sc scope own := by
  unfold genB at h
  simp only [Bool.and_eq_true, Bool.not_eq_true', decide_eq_true_eq, decide_eq_false_iff_not, List.all_eq_true] at h
  exact ⟨blkOk_by h.1, h.2.1, h.2.2.1, h.2.2.2⟩
/-- the generator's frame, run under A; pn: its own object -/
def gx (X : Cx) (A : Around) (s : Shared) (H : Hp) (cenv : Env) (fp : List Addr) (pn : List (Addr × Obj)) : Cx :=
  { X with A := A, s_0 := s, H_0 := H, env := cenv, outer := X.stack, stack := cenv :: X.stack, ex := fp, fn := fun _ => false, calm := true, pn := pn, xe := fun _ _ => False }
abbrev gcl (X : Cx) (scope : Scope) : List (Str × Addr) := cloFrom X.env.cells scope.names []
abbrev gev (X : Cx) (scope : Scope) (C : Addr) (code : Value) : Env := genEnv scope (gcl X scope) C code builtinsNs X.env
section
variable {X : Cx} {pins : List (Addr × Obj)} {σ : L2.St} {H : Hp} {s : Shared}
theorem GenOk.free {scope : Scope} {own : List (Str × Nat)} (ok : GenOk X.N X.env.scope scope own) (I : X.Ok) : ∀ y ∈ scope.names, y.2 = .free → ∃ c, X.env.cells.lookup y.1 = some c := fun y hy e => by
  rcases ok.blk.free y hy e with k | k
  · exact I.has _ (.inl k)
  · exact I.has _ (.inr k)
theorem gx_start {scope : Scope} {own : List (Str × Nat)} {fp : List Addr} {it code : Value} {A : Around} {h' : Heap} {g' : Array GenState} {tk : Nat} (I : Inv X pins σ H s) (ok : GenOk X.N X.env.scope scope own) (hN : X.N.Nodup) (hfp : ∀ b ∈ fp, FpOk X pins H b ∧ b < s.heap.objs.size)
    (hn : h'.Ns s.heap.objs.size (fun y => if y = (".0" : Str) then some it else none)) (kp : ∀ b o, s.heap.get? b = some o → h'.get? b = some o) (hg : AllBare g') (hA : A.frames = some (gev X scope s.heap.objs.size code :: X.stack)) (hh : A.handled = none) :
    Inv (gx X A s H (gev X scope s.heap.objs.size code) fp []) [] (wipe σ (own.map (·.2))) H { s with heap := h', gens := g', toks := tk } := by
  have hfree := ok.free I.ok
  -- a captured name's cell is the def's
  have back : ∀ {y c}, (gcl X scope).lookup y = some c → X.env.cells.lookup y = some c := fun {y c} e => by
    rcases cloFrom_mem (PySem.mem_of_lookup e) with hm | ⟨h1, h2⟩
    · cases hm
    · obtain ⟨c1, hc⟩ := hfree _ h1 rfl
      have hc : X.env.cells.lookup y = some c1 := hc
      have e2 : c = c1 := by rw [h2, hc] <;> rfl
      rw [e2]
      exact hc
  have forth : ∀ {y}, scope.names.lookup y = some .free → ∃ c, (gcl X scope).lookup y = some c := fun {y} hl => by
    have hy : (y, NameKind.free) ∈ scope.names := PySem.mem_of_lookup hl
    exact mem_lookup (cloFrom_has (cells := X.env.cells) (acc := []) hy)
  have old : ∀ {y c}, (gcl X scope).lookup y = some c → c < s.heap.objs.size := fun {y c} e => by
    obtain ⟨v, z⟩ := I.cell y c (back e)
    exact z.lt
  have oks : (gx X A s H (gev X scope s.heap.objs.size code) fp []).Ok :=
    { mod := I.ok.mod
      kind := ok.blk.kind
      glob := I.ok.glob
      blt := rfl
      above := Nat.le_refl _
      inj := fun y z c e1 e2 => I.ok.inj y z c (back e1) (back e2)
      has := fun y hy => by
        have hy' : scope.names.lookup y = some .cell ∨ scope.names.lookup y = some .free := hy
        rcases hy' with k | k
        · exact absurd rfl (ok.nocell _ (PySem.mem_of_lookup k))
        · exact forth k
      cab := fun y c z _ => by
        have z' : false = true := z
        cases z'
      hd := fun _ => hh
      frames := hA
      stk := .inr ⟨rfl, rfl⟩
      exf := fun b hb => ⟨Nat.ne_of_lt (hfp b hb).2, fun y c e => (hfp b hb).1.2.2.2.2.1 y c (back e)⟩
      bs := I.bs
      bsz := Nat.le_trans I.ok.bsz I.sz
      noex := fun b o e hb => by
        rcases (hfp b hb).1.2.2.2.1 with z | z
        · exact I.ok.noex b o e z
        · have l1 := Nat.lt_of_lt_of_le (Heap.lt_size e) I.ok.bsz
          exact Nat.lt_irrefl _ (Nat.lt_of_lt_of_le l1 z)
      exfs := fun b hb z => by
        rcases List.mem_cons.mp (I.stkSub b z) with q | q
        · exact (hfp b hb).1.2.1 q
        · exact (hfp b hb).1.2.2.1 q
      funs := I.stack
      frf := I.stkFree }
  refine ⟨oks, rfl, hg, Un.kept kp, ⟨_, hn, fun i y v e1 e2 e3 => ?_⟩, fun y c e => ?_, I.hok.fresh (Nat.le_refl _), fun y c e => I.freeC y c (back e), fun p hp => absurd (show p ∈ ([] : List (Addr × Obj)) ++ [] from hp) (by simp), I.hok.kept kp, by rw [wipe_length]; exact I.len⟩
  · obtain ⟨w1, w2⟩ := wipe_some e2
    have isFree : scope.names.lookup y = some .free := by
      have no : ∀ k, scope.names.lookup y = some k → k = .local ∨ k = .cell → False := fun k hk hk2 => by
        rcases ok.blk.own _ (PySem.mem_of_lookup hk) hk2 with q | q
        · obtain ⟨p, hp, hpy⟩ := List.mem_map.mp q
          have at_ := ok.blk.ix p hp
          rw [show p.1 = y from hpy] at at_
          exact w2 (List.mem_map.mpr ⟨p, hp, nodup_ix hN at_ e1⟩)
        · exact q (List.mem_of_getElem? e1)
      have e3' : Vis scope y := e3
      rcases e3' with k | k | k
      · exact (no _ k (.inl rfl)).elim
      · exact (no _ k (.inr rfl)).elim
      · exact k
    obtain ⟨m, hm, look⟩ := I.loc
    have seen : Vis X.env.scope y := (ok.blk.free _ (PySem.mem_of_lookup isFree) rfl).elim (fun k => .inr (.inl k)) (fun k => .inr (.inr k))
    obtain ⟨u, r, q⟩ := look i y v e1 w1 seen
    obtain ⟨c2, h2⟩ := forth isFree
    refine ⟨u, r, .inr ⟨.inr isFree, c2, h2, ?_⟩⟩
    have c1 := back h2
    rcases q with ⟨k, _⟩ | ⟨_, c3, e', z⟩
    · have k' : X.env.scope.names.lookup y = some .local := k
      rcases ok.blk.free _ (PySem.mem_of_lookup isFree) rfl with k2 | k2 <;> rw [show X.env.scope.names.lookup y = _ from k2] at k' <;> cases k'
    · rw [c1] at e'
      cases e'
      exact z.keeps kp
  · obtain ⟨v, z⟩ := I.cell y c (back e)
    exact ⟨v, z.keeps kp⟩
end
end Hd

set_option maxHeartbeats 4000000
/-! generator expressions: the loop of the frame -/
namespace Hd
open PySem PySem.Spec PyProof.Rows L2
/-- an item is out: P tells what its taker wants (c: what the taker holds, read off the state at the last wakening; Ss: its own objects); it goes on from any state that holds -/
def GYld {C : Type} (Z : Cx) (Gh : Shared → C → Prop) (Ss : List Addr) (P : C → V → Hp → (C → Hp → Prop) → Prop) : Protocol := fun n s₀ v s kap =>
  ∃ c y σ H ip, ∃ Nx : C → Hp → Prop, Gh s₀ c ∧ RelV y v ∧ Inv Z (pinsAt Ss s₀.heap ++ ip) σ H s ∧ (∀ p ∈ ip, p.1 ∉ Ss) ∧ P c y H Nx ∧ ∀ s' c' H', Inv Z (pinsAt Ss s'.heap ++ ip) σ H' s' → Gh s' c' → Nx c' H' → kap (.send .none) s'
def GEnd {C : Type} (Z : Cx) (Gh : Shared → C → Prop) (Ss : List Addr) (σ0 : L2.St) (Z0 : C → Hp → Prop) : GenEnd := fun n s₀ r s => ((r = .ok (.ret .none) ∨ r = .ok .next) ∧ ∃ c H, Gh s₀ c ∧ Inv Z (pinsAt Ss s₀.heap) σ0 H s ∧ Z0 c H) ∨ ∃ e, r = .error e ∧ False
abbrev gExp (elt tg iter : Expr) (ifs : List Expr) (scope : Scope) (pos : Pos) : Expr := .GeneratorExp elt [⟨tg, iter, ifs, 0⟩] scope pos
section
variable {C : Type} {Gh : Shared → C → Prop} {Ss : List Addr} {X : Cx} {B : Around} {s0 : Shared} {H0 : Hp} {cenv : Env} {fp : List Addr} {pn : List (Addr × Obj)} {elt tg iter : Expr} {ifs : List Expr} {scope : Scope} {pos : Pos} {it : Addr} {σ0 : L2.St} {vs : List Nat} {g : TG} {tt : TT} {te : TE} {J : It} {tn : Nat → Heap → Prop} {P : C → V → Hp → (C → Hp → Prop) → Prop} {Z0 : C → Hp → Prop} {W : C → Nat → Nat → Hp → Prop}
/-- one turn of the loop, as its reader sees it -/
def GTurn {C : Type} (σ : L2.St) (vs : List Nat) (g : TG) (tt : TT) (te : TE) (J : It) (P : C → V → Hp → (C → Hp → Prop) → Prop) (Z0 : C → Hp → Prop) (W : C → Nat → Nat → Hp → Prop) : Prop := ∀ c i m H, W c i m H →
  (J.stop i H ∧ Z0 c H) ∨ (J.go i H ∧ ∃ Nx : C → Hp → Prop, (∀ c' H', Nx c' H' → ∃ m', m' < m ∧ W c' (i + 1) m' H') ∧ ∀ x H', J.yld i H x H' → g x (wipe σ vs) H' fun σ2 H2 => wipe σ2 vs = wipe σ vs ∧ tt σ2 H2 fun b H3 => if b = true then te σ2 H3 fun y H4 => P c y H4 Nx else Nx c H3)
theorem seg_gx (Z : Cx) (hZ : Z = gx X (B.over (.compLoop (gExp elt tg iter ifs scope pos) 0 (.ref it) .none cenv) []) s0 H0 cenv fp pn) (hco : cenv.scope.isCoroutine = false) (T : Turn X.prog X.w X.K tg J fp it tn) (pg : PG Z tg g) (pt : PTs Z ifs tt) (pe : PE Z elt te) (turn : GTurn σ0 vs g tt te J P Z0 W) (hpn : ∀ p ∈ pn, p.1 ∉ fp) (hSs : ∀ b ∈ Ss, b ∉ fp) :
    ∀ (m n i : Nat) (c : C) (s₀ s : Shared) (H : Hp), m < n → Gh s₀ c → Inv Z (pinsAt Ss s₀.heap) (wipe σ0 vs) H s → tn i s.heap → (∀ b ∈ fp, H b = none) → W c i m H →
      Seg (model X.prog X.w) B (GEnd Z Gh Ss (wipe σ0 vs) Z0) (GYld Z Gh Ss P) n s₀ (.compLoop (gExp elt tg iter ifs scope pos) 0 (.ref it) .none cenv) ((model X.prog X.w).den (.compLoop (gExp elt tg iter ifs scope pos) 0 (.ref it) .none cenv)) [] s := by
  subst hZ
  have stat : ∀ {hp : Heap} {σ' : L2.St} {H' : Hp} {s' : Shared}, Inv (gx X (B.over (.compLoop (gExp elt tg iter ifs scope pos) 0 (.ref it) .none cenv) []) s0 H0 cenv fp pn) (pinsAt Ss hp) σ' H' s' → (∀ b ∈ fp, H' b = none) → ∀ b ∈ fp, FpOk (gx X (B.over (.compLoop (gExp elt tg iter ifs scope pos) 0 (.ref it) .none cenv) []) s0 H0 cenv fp pn) (pinsAt Ss hp) H' b := fun {hp σ' H' s'} I' hn b hb => by
    refine ⟨hn b hb, (I'.ok.exf b hb).1, I'.ok.exfs b hb, .inl hb, fun x c e => (I'.ok.exf b hb).2 x c e, fun p hq z => ?_⟩
    rcases List.mem_append.mp hq with q | q
    · exact hpn p q (by rw [z]; exact hb)
    · exact hSs p.1 (of_pinsAt q).1 (by rw [z]; exact hb)
  generalize hZ : gx X (B.over (.compLoop (gExp elt tg iter ifs scope pos) 0 (.ref it) .none cenv) []) s0 H0 cenv fp pn = Z at *
  have hAo : B.over (.compLoop (gExp elt tg iter ifs scope pos) 0 (.ref it) .none cenv) [] = Z.A := by rw [← hZ] <;> rfl
  have hp1 : Z.prog = X.prog := by rw [← hZ] <;> rfl
  have hp2 : Z.w = X.w := by rw [← hZ] <;> rfl
  have hp3 : Z.K = X.K := by rw [← hZ] <;> rfl
  have hp4 : Z.env = cenv := by rw [← hZ] <;> rfl
  have hp5 : Z.calm = true := by rw [← hZ] <;> rfl
  have hp8 : Z.xe = fun _ _ => False := by rw [← hZ] <;> rfl
  intro m
  induction m using Nat.strongRecOn with
  | _ m ih =>
    intro n i c s₀ s H hmn gh I st nf w
    show Seg _ B _ _ n s₀ _ ((compTurn (.GeneratorExp elt [⟨tg, iter, ifs, 0⟩] scope pos) 0 (.ref it) .none cenv).onRaise (leaving cenv)) [] s
    rw [compTurn_gen, Sem.onRaise_eq_wrap]
    refine seg_bind_wrap (wpAny_standAt ?_)
    rcases turn c i m H w with ⟨stop, hz⟩ | ⟨go, Nx, hNx, step⟩
    · have td := T.done Z hp1 hp2 hp3 hp5 i _ s _ H (fun _ _ => False) I (stat I nf) st stop
      rw [← hAo] at td
      refine seg_bind_wrap (wpAny_mono td (fun r s6 hr => ?_) fun _ _ e => e.elim)
      obtain ⟨rfl, I6⟩ := hr
      exact seg_end (.ok .next) (.inl ⟨.inr rfl, c, H, gh, I6, hz⟩)
    · have ti := T.item Z hp1 hp2 hp3 hp5 i _ s _ H (fun _ _ => False) I (stat I nf) st go
      rw [← hAo] at ti
      refine seg_bind_wrap (wpAny_mono ti (fun r s6 hr => ?_) fun _ _ e => e.elim)
      obtain ⟨u, rfl, h6⟩ := hr
      refine seg_bind_wrap (wpAny_mono h6 (fun _ s7 h7 => ?_) fun _ _ e => e.elim)
      obtain ⟨x, H7, I7, r7, y7, st7, n7⟩ := h7
      have I7' := I7.pinned (stat I7 n7) (T.obj _ _ st7)
      have go8 := pg.run _ s7 _ H7 x u _ I7' r7 (step x H7 y7)
      rw [hp1, hp2, hp4, hp8, ← hAo] at go8
      refine seg_bind_wrap (wpAny_mono go8 (fun _ s8 h8 => ?_) fun _ _ e => e.elim)
      obtain ⟨σ8, H8, I8, hw8, q8⟩ := h8
      have go9 := pt.run _ s8 σ8 H8 _ I8 q8
      rw [hp1, hp2, hp4, hp8, ← hAo] at go9
      refine seg_bind_wrap (wpAny_mono go9 (fun b s9 h9 => ?_) fun _ _ e => e.elim)
      obtain ⟨H9, I9, q9⟩ := h9
      -- behind the turn
      have fin : ∀ {s₀' s' : Shared} {c' : C} {H' : Hp} {n' : Nat}, m ≤ n' → Gh s₀' c' → Inv Z (pinsAt Ss s₀'.heap ++ pinsAt fp s7.heap) σ8 H' s' → Nx c' H' → Seg (model X.prog X.w) B (GEnd Z Gh Ss (wipe σ0 vs) Z0) (GYld Z Gh Ss P) n' s₀' (.compLoop (gExp elt tg iter ifs scope pos) 0 (.ref it) .none cenv) (.pure (.again (.compLoop (gExp elt tg iter ifs scope pos) 0 (.ref it) .none cenv))) [] s' := fun {s₀' s' c' H' n'} hm gh' I' nx => by
        obtain ⟨m', hm', w'⟩ := hNx c' H' nx
        have pin' : ∀ b ∈ fp, ∀ o, s7.heap.get? b = some o → s'.heap.get? b = some o ∧ H' b = none := fun b hb o e =>
          let z := I'.pin (b, o) (List.mem_append_right _ (List.mem_append_right _ (mem_pinsAt hb e)))
          ⟨z.1, z.2.1⟩
        have hl : (wipe σ0 vs).length = σ8.length := by rw [← hw8, wipe_length]
        refine seg_again rfl (ih m' hm' n' (i + 1) c' s₀' s' H' (by omega) gh' ((I'.unpinned (pins := pinsAt Ss s₀'.heap)).weak hl (fun j v e => ?_)) (T.keep _ _ _ st7 fun b hb o e => (pin' b hb o e).1) (fun b hb => ?_) w')
        · rw [← hw8] at e
          exact (wipe_some e).1
        · obtain ⟨o, e, _⟩ := T.obj _ _ st7 b hb
          exact (pin' b hb o e).2
      cases b with
      | false =>
        simp only [Bool.false_eq_true, if_false] at q9 ⊢
        exact fin (Nat.le_of_lt hmn) gh I9 q9
      | true =>
        simp only [if_true] at q9 ⊢
        have plain : ∀ v, yieldOut cenv v = yieldValue v := fun v => by
          unfold yieldOut
          rw [hco, if_neg (by decide)]
        simp only [plain]
        rw [Sem.bind_eq_wrap', Sem.bind_eq_wrap', Sem.wrap_wrap, Sem.wrap_wrap]
        have go10 := pe.run _ s9 σ8 H9 _ I9 q9
        rw [hp1, hp2, hp4, hp8, ← hAo] at go10
        refine seg_wrap (wpAny_mono go10 (fun v s10 h10 => ?_) fun _ _ e => e.elim)
        obtain ⟨y, H10, I10, r10, q10⟩ := h10
        obtain ⟨n', rfl⟩ : ∃ n', n = n' + 1 := ⟨n - 1, by omega⟩
        refine seg_at (seg_yield rfl rfl rfl ⟨c, y, σ8, H10, _, Nx, gh, r10, I10, fun p hp hm => hSs _ hm (of_pinsAt hp).1, q10, fun s' c' H' I' gh' nx => fin (by omega) gh' I' nx⟩)
end
end Hd

set_option maxHeartbeats 4000000
/-! generator expressions: what takes from them -/
namespace Hd
open PySem PySem.Spec PyProof.Rows L2 GenW
section
variable {C : Type} {Gh : Shared → C → Prop} {Ss : List Addr} {X Z : Cx} {pins ip : List (Addr × Obj)} {σ σ' : L2.St} {H H' H0 : Hp} {s s' s0 : Shared} {a : Addr} {gi : Nat} {σ0 : L2.St} {P : C → V → Hp → (C → Hp → Prop) → Prop} {Z0 : C → Hp → Prop}
/-- the loop's beginning: it may ask for the iterator once more -/
theorem seg_gs {B : Around} {R : GenEnd} {Y : Protocol} {n : Nat} {prog : Program} {w : World} {elt tg iter : Expr} {ifs : List Expr} {scope : Scope} {pos : Pos} {it : Addr} {cenv : Env} {s₀ : Shared}
    (self : ∀ (A : Around) (Q : Value → Shared → Prop) (E : Value → Shared → Prop), Q (.ref it) s → wpAny (model prog w) A (pyIter (.ref it)) Q E s)
    (loop : Seg (model prog w) B R Y n s₀ (.compLoop (gExp elt tg iter ifs scope pos) 0 (.ref it) .none cenv) ((model prog w).den (.compLoop (gExp elt tg iter ifs scope pos) 0 (.ref it) .none cenv)) [] s) :
    Seg (model prog w) B R Y n s₀ (.compStart (gExp elt tg iter ifs scope pos) 0 (.ref it) .none cenv) ((model prog w).den (.compStart (gExp elt tg iter ifs scope pos) 0 (.ref it) .none cenv)) [] s := by
  show Seg _ B _ _ n s₀ _ ((compStart (.GeneratorExp elt [⟨tg, iter, ifs, 0⟩] scope pos) 0 (.ref it) .none cenv).onRaise (leaving cenv)) [] s
  unfold compStart
  rw [Sem.onRaise_eq_wrap]
  show Seg _ B _ _ n s₀ _ ((ask >>= _).wrap _ _ _ _) [] s
  refine seg_bind_wrap (wpAny_askSetting ?_)
  split
  · exact seg_again rfl loop
  · refine seg_bind_wrap (wpAny_rule ?_)
    show Seg _ B _ _ n s₀ _ ((standAt iter.pos >>= _).wrap _ _ _ _) [] s
    exact seg_bind_wrap (wpAny_standAt (seg_bind_wrap (self _ _ _ (seg_again rfl loop))))
/-- from the generator's frame back to the def's -/
theorem z_back (I : Inv X pins σ H0 s0) {A : Around} {cenv : Env} {fp : List Addr} {pn : List (Addr × Obj)} (hfp : ∀ b ∈ fp, FpOk X pins H0 b) (J : Inv (gx X A s0 H0 cenv fp pn) ip σ' H s') : Inv X pins σ H s' :=
  I.call' (ch := fp) J.os J.base J.hok J.bare fun b hb => ⟨(hfp b hb).2.2.2.1, (hfp b hb).2.1, (hfp b hb).2.2.2.2.1, (hfp b hb).2.2.2.2.2⟩
/-- only the generators' table is another -/
theorem z_gens (J : Inv Z ip σ H s) {g' : Array GenState} (hg : AllBare g') : Inv Z ip σ H { s with gens := g' } :=
  Inv.call' (ch := []) J rfl (Un.kept fun b o e => e) J.hok hg fun b hb => absurd hb (by simp)
/-- the generator stands ready: at most n items come -/
def GSt {C : Type} (Z : Cx) (Gh : Shared → C → Prop) (Ss : List Addr) (σ0 : L2.St) (P : C → V → Hp → (C → Hp → Prop) → Prop) (Z0 : C → Hp → Prop) (B : Around) (a : Addr) (gi n : Nat) (s : Shared) : Prop :=
  s.heap.IsGen a gi ∧ s.heap.NoLimit ∧ ∃ gs, s.gens[gi]? = some gs ∧ gs.Goes (model Z.prog Z.w) B (GEnd Z Gh Ss σ0 Z0) (GYld Z Gh Ss P) n (.send .none) (s.setGen gi .running)
theorem gen_next {A : Around} {n : Nat} {Q : Option Value → Shared → Prop} {E : Value → Shared → Prop} (hGh : ∀ s s' c, s'.heap = s.heap → Gh s c → Gh s' c) (hh : A.handled = none) (hd : A.depth < recursionLimit) (hpin : ∃ go, (a, go) ∈ Z.pn ∧ ∀ h : Heap, h.get? a = some go → h.IsGen a gi) (G : GSt Z Gh Ss σ0 P Z0 A.in1 a gi n s)
    (hY : ∀ (c : C) (y : V) (v : Value) (ip : List (Addr × Obj)) (σ : L2.St) (H : Hp) (s' : Shared) (Nx : C → Hp → Prop), Gh s c → RelV y v → Inv Z (pinsAt Ss s.heap ++ ip) σ H s' → (∀ p ∈ ip, p.1 ∉ Ss) → P c y H Nx →
      (∀ s'' c' H', Inv Z (pinsAt Ss s''.heap ++ ip) σ H' s'' → Gh s'' c' → Nx c' H' → s''.gens = s'.gens → ∃ m, n = m + 1 ∧ GSt Z Gh Ss σ0 P Z0 A.in1 a gi m s'') → Q (some v) s')
    (hP : ∀ c H s', Gh s c → Inv Z (pinsAt Ss s.heap) σ0 H s' → Z0 c H → Q none s') : wpAny (model Z.prog Z.w) A (pyNext (.ref a)) Q E s := by
  obtain ⟨g1, g2, gs, g3, g4⟩ := G
  have hgl : gi < s.gens.size := (Array.getElem?_eq_some_iff.mp g3).1
  refine wpAny_gsz (n := gi + 1) hgl (next_genG (F := fun _ s₀ s₁ => ∃ c H, Gh s₀ c ∧ Inv Z (pinsAt Ss s₀.heap) σ0 H s₁ ∧ Z0 c H) (Er := fun _ _ => False) hh g2 hd g1 g3 g4 (fun v s₁ gs' hb hv hz => ?_) (fun s₁ hp h' hk hz => ?_) fun e s₁ he => he.elim)
  · obtain ⟨c, y, σ', H', ip', Nx, gh, r, J, hip, p, k⟩ := hv
    have hz1 : gi < s₁.gens.size := by
      have q : (s₁.setGen gi gs').gens.size = s₁.gens.size := setGen_size _ _ _
      omega
    have J' : Inv Z (pinsAt Ss s.heap ++ ip') σ' H' (s₁.setGen gi gs') := z_gens J (allBare_setGen J.bare hb)
    refine hY c y v ip' σ' H' _ Nx (hGh (s.setGen gi .running) s c rfl gh) r J' hip p fun s'' c'' H'' J'' gh'' nx eg => ?_
    cases n with
    | zero => exact (k s'' c'' H'' J'' gh'' nx).elim
    | succ m =>
      obtain ⟨go, h1, h2⟩ := hpin
      have eg' : s''.gens[gi]? = some gs' := by
        rw [eg]
        exact setGen_at hz1
      exact ⟨m, rfl, h2 _ (J''.pin _ (List.mem_append_left _ h1)).1, J''.nolimit, gs', eg', k (s''.setGen gi .running) c'' H'' (z_gens J'' (allBare_setGen J''.bare rfl)) (hGh s'' (s''.setGen gi .running) c'' rfl gh'') nx⟩
  · obtain ⟨c, H, gh, J, q⟩ := hp
    refine hP c H _ (hGh (s.setGen gi .running) s c rfl gh) ?_ q
    have J1 : Inv Z (pinsAt Ss s.heap) σ0 H { s₁ with heap := h' } := Inv.call' (ch := []) J rfl (Un.kept hk) (J.hok.kept hk) J.bare fun b hb => absurd hb (by simp)
    exact z_gens J1 (allBare_setGen J1.bare rfl)
/-- all of the items are true; QF: one is not -/
def PAll (QF : Hp → Prop) : Unit → V → Hp → (Unit → Hp → Prop) → Prop := fun _ y H Nx => ∃ c, y = .bl c ∧ (c = true → Nx () H) ∧ (c = false → QF H)
abbrev noGh : Shared → Unit → Prop := fun _ _ => True
theorem all_loop {A : Around} {QF QT : Hp → Prop} {R : Result → Shared → Prop} (hh : A.handled = none) (hd : A.depth < recursionLimit) (hpin : ∃ go, (a, go) ∈ Z.pn ∧ ∀ h : Heap, h.get? a = some go → h.IsGen a gi)
    (hT : ∀ H s', Inv Z [] σ0 H s' → QT H → R (.ok (.ret (.bool true))) s') (hF : ∀ ip σ H s', Inv Z ip σ H s' → QF H → R (.ok (.ret (.bool false))) s') :
    ∀ (n : Nat) (s : Shared), GSt Z noGh [] σ0 (PAll QF) (fun _ => QT) A.in1.in1 a gi n s → codeAny (model Z.prog Z.w) A (.builtin "all.loop" ⟨[.ref a], []⟩) R s := by
  intro n
  induction n with
  | zero =>
    intro s G
    refine codeAny_builtin F.entry_all_loop ?_
    rw [Around.under_plainId F.plain_all_loop _]
    show wpAny _ A.in1 (pyNext (.ref a) >>= _) _ _ s
    refine wpAny_bind (gen_next (A := A.in1) (fun _ _ _ _ h => h) hh hd hpin G (fun u y v ip σ H s' Nx _ r J _ p k => ?_) (fun u H s' _ J q => wpAny_bind (wpAny_rule (wpAny_pure (hT H s' J q)))))
    obtain ⟨c, rfl, p1, p2⟩ := p
    obtain rfl : v = Value.bool c := r
    refine wpAny_bind (wpAny_holding (wpAny_truthy_bool ?_))
    refine wpAny_bind (wpAny_letGo ?_)
    cases c with
    | false => exact wpAny_bind (wpAny_rule (wpAny_pure (hF _ σ H s' J (p2 rfl))))
    | true =>
      obtain ⟨m, e, _⟩ := k s' () H J trivial (p1 rfl) rfl
      exact absurd e (by omega)
  | succ n ih =>
    intro s G
    refine codeAny_builtin F.entry_all_loop ?_
    rw [Around.under_plainId F.plain_all_loop _]
    show wpAny _ A.in1 (pyNext (.ref a) >>= _) _ _ s
    refine wpAny_bind (gen_next (A := A.in1) (fun _ _ _ _ h => h) hh hd hpin G (fun u y v ip σ H s' Nx _ r J _ p k => ?_) (fun u H s' _ J q => wpAny_bind (wpAny_rule (wpAny_pure (hT H s' J q)))))
    obtain ⟨c, rfl, p1, p2⟩ := p
    obtain rfl : v = Value.bool c := r
    refine wpAny_bind (wpAny_holding (wpAny_truthy_bool ?_))
    refine wpAny_bind (wpAny_letGo ?_)
    cases c with
    | false => exact wpAny_bind (wpAny_rule (wpAny_pure (hF _ σ H s' J (p2 rfl))))
    | true =>
      obtain ⟨m, e, G'⟩ := k s' () H J trivial (p1 rfl) rfl
      obtain rfl : n = m := by omega
      exact wpAny_pure ⟨plainId_quiet F.plain_all_loop _, ih s' G'⟩
end
end Hd

set_option maxHeartbeats 4000000
/-! generator expressions: the making -/
namespace Hd
open PySem PySem.Spec PyProof.Rows L2 GenW
section
variable {X : Cx} {pins : List (Addr × Obj)} {σ : L2.St} {H : Hp} {s : Shared}
theorem gx_pin {A : Around} {s0 s' : Shared} {H0 H' : Hp} {cenv : Env} {fp : List Addr} {σ' : L2.St} {q : Addr × Obj} (I : Inv (gx X A s0 H0 cenv fp []) [] σ' H' s') (h1 : s'.heap.get? q.1 = some q.2) (h2 : H' q.1 = none) (h3 : q.1 ≠ cenv.locals) (h4 : q.1 ∉ frs X.stack) (h5 : ∀ v, q.2.data ≠ .cell v) :
    Inv (gx X A s0 H0 cenv fp [q]) [] σ' H' s' :=
  { ok := { mod := I.ok.mod, kind := I.ok.kind, glob := I.ok.glob, blt := I.ok.blt, above := I.ok.above, inj := I.ok.inj, has := I.ok.has, cab := I.ok.cab, hd := I.ok.hd, frames := I.ok.frames, stk := I.ok.stk, exf := I.ok.exf, bs := I.ok.bs, bsz := I.ok.bsz, noex := I.ok.noex, exfs := I.ok.exfs, funs := I.ok.funs, frf := I.ok.frf }
    os := I.os, bare := I.bare, base := I.base, loc := I.loc, cell := I.cell, free := I.free, freeC := I.freeC
    pin := fun p hp => by
      have hp' : p ∈ [q] ++ ([] : List (Addr × Obj)) := hp
      rw [List.append_nil] at hp'
      rw [List.mem_singleton.mp hp']
      exact ⟨h1, h2, h3, h4, h5⟩
    hok := I.hok, len := I.len }
/-- what is there when a generator expression has been made: its frame's start is told for each around -/
structure GMake (X : Cx) (pins : List (Addr × Obj)) (σ : L2.St) (scope : Scope) (own : List (Str × Nat)) (e : Expr) (tg : Expr) (J : It) (H2 : Hp) (a : Addr) (s5 : Shared) : Prop where
  go : ∃ (it : Addr) (fp : List Addr) (tn : Nat → Heap → Prop) (s4 : Shared) (code : Value) (gi : Nat) (go : Obj), Inv X pins σ H2 s4 ∧ Turn X.prog X.w X.K tg J fp it tn ∧ tn 0 s5.heap ∧ (∀ b ∈ fp, FpOk X pins H2 b) ∧ a ∉ fp ∧ (∀ h : Heap, h.get? a = some go → h.IsGen a gi) ∧
    s5.heap.IsGen a gi ∧ s5.heap.NoLimit ∧ s5.gens[gi]? = some (.fresh (.compStart e 0 (.ref it) .none (gev X scope s4.heap.objs.size code))) ∧ (∀ b ∈ fp, H2 b = none) ∧
    ∀ A : Around, A.frames = some (gev X scope s4.heap.objs.size code :: X.stack) → A.handled = none → Inv (gx X A s4 H2 (gev X scope s4.heap.objs.size code) fp [(a, go)]) [] (wipe σ (own.map (·.2))) H2 s5
theorem gen_made {c P : Addr} {elt tg iter : Expr} {ifs : List Expr} {pos : Pos} {scope : Scope} {own : List (Str × Nat)} {wi : TI} {k : Nat} {Q' : Value → Shared → Prop} {R : It → Hp → Prop} (hr : Room (k + 1) X.A) (TB : GxR.TabB X.base X.mg c P) (hcode : X.env.code = .ref c) (ok : GenOk X.N X.env.scope scope own) (hN : X.N.Nodup) (hi : PI X tg iter wi)
    (hs : ∀ v, genFold iter X.env v = pure v) (I : Inv X pins σ H s) (h : wi σ H fun J H1 => GxR.TabG H1 P ∧ ∀ H2, GxR.Tabbed P H1 H2 → R J H2)
    (hQ : ∀ J H2 a s5, R J H2 → GMake X pins σ scope own (gExp elt tg iter ifs scope pos) tg J H2 a s5 → Q' (.ref a) s5) :
    wpAny (model X.prog X.w) X.A (eval (gExp elt tg iter ifs scope pos) X.env) Q' X.xe s := by
  refine wpAny_GeneratorExp_make ok.co (closure_ok (ok.free I.ok)) ok.nocell ok.dot ok.blk.kind (by have := hr.dp; omega) ?_ hs
  refine thn (hi.run pins s σ H _ I h) fun xv s1 hx => thn hx fun itv s2 h2 => ?_
  obtain ⟨it, fp, tn, J, H2, rfl, I2, T, st2, f2, ⟨ps, hP, ht⟩, q⟩ := h2
  refine ⟨I2.nolimit, ?_⟩
  have hPs : s2.heap.get? P = some { cls := .none, data := .fields ps } := I2.hok P _ hP
  have cd : PySem.W.CodeHd s2.heap c P := TB.code.keeps fun b u e => I2.bk b u e
  have nP : ∀ b ∈ fp, b ≠ P := fun b hb e => by
    have := (f2 b hb).1
    rw [e, hP] at this
    cases this
  -- behind the code's look: the state, its heap
  have go : ∀ (code : Value) (s3 : Shared) (H3 : Hp), Inv X pins σ H3 s3 → GxR.Tabbed P H2 H3 → (∀ b o, b ≠ P → s2.heap.get? b = some o → s3.heap.get? b = some o) →
      wpAny (model X.prog X.w) X.A (builtinsFor X.env.globals X.env.builtins) (fun bi s₄ =>
        ∀ h', h'.Ns s₄.heap.objs.size (fun y => if y = (".0" : Str) then some (.ref it) else none) → Heap.SameBut s₄.heap.objs.size (s₄.heap.push { cls := .type "frame", data := .dict #[] }) h' →
          Q' (.ref h'.objs.size) { s₄ with gens := s₄.gens.push (.fresh (.compStart (gExp elt tg iter ifs scope pos) 0 (.ref it) .none (genEnv scope (cloFrom X.env.cells scope.names []) s₄.heap.objs.size code bi X.env))), toks := s₄.toks + 1 + 1 + 1, heap := h'.push { cls := .type "generator", data := .fields #[.int s₄.gens.size 0, .str "<genexpr>" (s₄.toks + 1), .str (X.env.qual ++ "<genexpr>") (s₄.toks + 1 + 1)] } }) X.xe s3 := by
    intro code s3 H3 I3 tb kp
    obtain ⟨bm, ob, b1, b2, _, _, b5, b6, b7, b8⟩ := TB.bm
    refine wpAny_builtinsFor (m := X.mg) (by rw [I3.ok.glob]; exact I3.mod.glob.keeps I3.bk) b1 b2 (I3.bk _ _ b5) b6 b7 b8 fun h' hn sb => ?_
    have sz : h'.objs.size = s3.heap.objs.size + 1 := by rw [sb.1, Heap.size_push]
    have kp' : ∀ b o, s3.heap.get? b = some o → h'.get? b = some o := fun b o e => sb.extBut b o (Nat.ne_of_lt (Heap.lt_size e)) (Heap.get?_push_of_some _ e)
    have f3 : ∀ b ∈ fp, FpOk X pins H3 b := fun b hb => ⟨by rw [tb.2 b (nP b hb)]; exact (f2 b hb).1, (f2 b hb).2⟩
    have old : ∀ b ∈ fp, ∃ o, s2.heap.get? b = some o ∧ s3.heap.get? b = some o := fun b hb => by
      obtain ⟨o, e, _⟩ := T.obj _ _ st2 b hb
      exact ⟨o, e, kp b o (nP b hb) e⟩
    have lt3 : ∀ b ∈ fp, b < s3.heap.objs.size := fun b hb => let ⟨o, _, e⟩ := old b hb; Heap.lt_size e
    generalize hgo : ({ cls := .type "generator", data := .fields #[.int s3.gens.size 0, .str "<genexpr>" (s3.toks + 1), .str (X.env.qual ++ "<genexpr>") (s3.toks + 1 + 1)] } : Obj) = go
    have hpg : (h'.push go).get? h'.objs.size = some go := Heap.get?_push_size _ (by rw [← hgo] <;> rfl)
    have isg : ∀ hh : Heap, hh.get? h'.objs.size = some go → hh.IsGen h'.objs.size s3.gens.size := fun hh e => ⟨go, _, _, e, by rw [← hgo], by rw [← hgo], by rw [← hgo]⟩
    have kp5 : ∀ b o, s3.heap.get? b = some o → (h'.push go).get? b = some o := fun b o e => Heap.get?_push_of_some _ (kp' b o e)
    have bare5 : AllBare (s3.gens.push (.fresh (.compStart (gExp elt tg iter ifs scope pos) 0 (.ref it) .none (gev X scope s3.heap.objs.size code)))) := AllBare.push I3.bare rfl
    refine hQ J H3 _ _ (q H3 tb) ⟨it, fp, tn, s3, code, s3.gens.size, go, I3, T, ?_, f3, fun hm => ?_, isg, isg _ hpg, ?_, Array.getElem?_push_size .., fun b hb => (f3 b hb).1, fun A hA hh => ?_⟩
    · exact T.keep _ _ _ st2 fun b hb o e => kp5 b o (kp b o (nP b hb) e)
    · have := lt3 _ hm
      rw [sz] at this
      exact Nat.lt_irrefl _ (Nat.lt_of_succ_lt this)
    · exact I3.nolimit.keeps kp5
    · have st := gx_start (it := .ref it) (code := code) (A := A) (tk := s3.toks + 1 + 1 + 1) I3 ok hN (fun b hb => ⟨f3 b hb, lt3 b hb⟩) (hn.push go) kp5 bare5 hA hh
      refine gx_pin st hpg ?_ ?_ ?_ fun v z => ?_
      · exact I3.hok.fresh (by rw [sz]; exact Nat.le_succ _)
      · show h'.objs.size ≠ s3.heap.objs.size
        rw [sz]
        exact Nat.succ_ne_self _
      · intro hm
        have l := I3.lt
        rcases List.mem_cons.mp (I3.stkSub _ hm) with z | z
        · rw [← z, sz] at l
          exact Nat.lt_irrefl _ (Nat.lt_of_succ_lt l)
        · exact I3.nofs (by rw [sz]; exact Nat.le_succ _) z
      · rw [← hgo] at z
        cases z
  cases hf : codeAmong pos ps.toList with
  | some cv =>
    refine PySem.wpAny_genexprCode_hit hcode (cd.code hPs ht) hf ?_
    exact go cv s2 H2 I2 ⟨⟨ps, hP, ht⟩, fun b _ => rfl⟩ fun b o _ e => e
  | none =>
    refine PySem.wpAny_genexprCodeX hcode (cd.code hPs ht) (cd.tab hPs) hf fun c' h' tk hx hge hlt hco' _ htab' _ => ?_
    obtain ⟨o1, vs, f1, tf, fl, tgg, inF, tx, tt, op, _, _, _, _, _, _, _, _, _, htr, _⟩ := hco'
    have I3 := GxR.inv_tab (h' := h') (g' := s2.gens) (d' := s2.drawn) (t' := tk) I2 hP (fun b u hb e => hx b u hb e) htab'.2 I2.bare
    exact go (.ref c') _ _ I3 ⟨⟨_, upd_same, htr⟩, fun b hb => upd_ne hb⟩ fun b o hb e => hx b o hb e
/-- the around of the generator's frame -/
theorem over_room {k : Nat} {A : Around} {e : Expr} {it acc : Value} {cenv : Env} (hr : Room (k + 1) A) (hc : (Code.compLoop e 0 it acc cenv).weight = 1) (hu : (Code.compLoop e 0 it acc cenv).cUnits = 3) : Room k (A.in1.in1.over (.compLoop e 0 it acc cenv) []) := by
  have h1 : (A.in1.in1.over (.compLoop e 0 it acc cenv) []).depth = A.depth + (Code.compLoop e 0 it acc cenv).weight := rfl
  have h2 : (A.in1.in1.over (.compLoop e 0 it acc cenv) []).units = A.in1.in1.units + (Code.compLoop e 0 it acc cenv).cUnits := rfl
  have h3 : A.in1.in1.units = A.units + 1 + 1 := rfl
  have d := hr.dp
  have u := hr.un
  refine ⟨hr.hd, ?_, ?_⟩
  · rw [h1, hc]
    omega
  · rw [h2, hu, h3]
    omega
def tAllG (P : Addr) (wi : TI) (g : TG) (tt : TT) (te : TE) (vs : List Nat) : TE := fun σ H Q => wi σ H fun J H1 => GxR.TabG H1 P ∧ ∀ H2, GxR.Tabbed P H1 H2 → ∃ W : Unit → Nat → Nat → Hp → Prop, (∃ m, W () 0 m H2) ∧ GTurn σ vs g tt te J (PAll (Q (.bl false))) (fun _ => Q (.bl true)) W
/-- all(elt for tg in iter if ..), the element any expression -/
theorem pe_allG {c P : Addr} {elt tg iter : Expr} {ifs : List Expr} {p pos gpos : Pos} {scope : Scope} {own : List (Str × Nat)} {wi : TI} {g : TG} {tt : TT} {te : TE} {k : Nat} (hr : Room (k + 1) X.A) (hg : Gl X "all") (hm : X.mg "all" = none) (TB : GxR.TabB X.base X.mg c P) (hcode : X.env.code = .ref c)
    (ok : GenOk X.N X.env.scope scope own) (hN : X.N.Nodup) (hi : PI X tg iter wi) (hpg : ∀ (A : Around) (s : Shared) (H : Hp) (code : Value) (fp : List Addr) (pn : List (Addr × Obj)), Room k A → PG (gx X A s H (gev X scope s.heap.objs.size code) fp pn) tg g)
    (hpt : ∀ (A : Around) (s : Shared) (H : Hp) (code : Value) (fp : List Addr) (pn : List (Addr × Obj)), Room k A → PTs (gx X A s H (gev X scope s.heap.objs.size code) fp pn) ifs tt) (hpe : ∀ (A : Around) (s : Shared) (H : Hp) (code : Value) (fp : List Addr) (pn : List (Addr × Obj)), Room k A → PE (gx X A s H (gev X scope s.heap.objs.size code) fp pn) elt te)
    (hs : ∀ v, genFold iter X.env v = pure v := by intro _; rfl) (hb : bootBuiltins "all" = some (.builtin "all") := by decide +kernel)
    (he : starEach [gExp elt tg iter ifs scope gpos] X.env = (false, eval (gExp elt tg iter ifs scope gpos) X.env) :: starEach [] X.env := by rfl) :
    PE X (.Call (.Name "all" p) [gExp elt tg iter ifs scope gpos] [] pos) (tAllG P wi g tt te (own.map (·.2))) := by
  refine ⟨fun pins s σ H Q I h => ?_⟩
  refine wpAny_Call_Name_kw (ld_blt I hg hm hb ?_)
  refine PyProof.Rows.callWith_builtin1 ?_ he (by rfl)
  rw [he]
  show wpAny _ _ (spliced ((false, eval (gExp elt tg iter ifs scope gpos) X.env) :: backTo pos (starEach [] X.env))) _ _ s
  refine Calls.spliced_cons (gen_made hr TB hcode ok hN hi hs I h fun J H2 a s5 hR G => ?_)
  obtain ⟨W, ⟨m, w0⟩, turn⟩ := hR
  obtain ⟨it, fp, tn, s4, code, gi, go, I4, T, st, hf, haf, isg, ig5, nl5, gs5, nf, inv⟩ := G.go
  refine Calls.spliced_nil ?_
  refine call_function_tree F.kind_all F.plain_all F.entry_all (F.args_all1 _) ?_
  unfold Builtin.«all»
  refine wpAny_bind (m := oneArg "all" _) (wpAny_pure (wpAny_bind (wpAny_pyIter_gen ig5 (wpAny_pure ⟨plainId_quiet F.plain_all_loop _, ?_⟩))))
  have fr : (X.A.in1.in1.over (.compLoop (gExp elt tg iter ifs scope gpos) 0 (.ref it) .none (gev X scope s4.heap.objs.size code)) []).frames = some (gev X scope s4.heap.objs.size code :: X.stack) := by
    have e : X.A.in1.in1.frames = some X.stack := I4.ok.frames
    unfold Around.over
    dsimp only
    rw [e] <;> rfl
  have rm := over_room (e := gExp elt tg iter ifs scope gpos) (it := .ref it) (acc := .none) (cenv := gev X scope s4.heap.objs.size code) hr rfl rfl
  have J5 := inv _ fr rm.hd
  have J6 := z_gens J5 (allBare_setGen (g := gi) (x := .running) J5.bare rfl)
  refine all_loop (Z := gx X (X.A.in1.in1.over (.compLoop (gExp elt tg iter ifs scope gpos) 0 (.ref it) .none (gev X scope s4.heap.objs.size code)) []) s4 H2 (gev X scope s4.heap.objs.size code) fp [(a, go)]) (σ0 := wipe σ (own.map (·.2))) (QF := Q (.bl false)) (QT := Q (.bl true)) (gi := gi) hr.hd (by have := hr.dp; omega) ⟨go, List.mem_singleton.mpr rfl, isg⟩
    (fun H' s' J q => ⟨.bl true, H', z_back I4 hf J, rfl, q⟩) (fun ip σ' H' s' J q => ⟨.bl false, H', z_back I4 hf J, rfl, q⟩) (m + 1) s5 ⟨ig5, nl5, _, gs5, rfl, ?_⟩
  refine seg_gs (fun A Q E hq => T.self A 0 _ Q E st hq) ?_
  exact seg_gx (X := X) _ rfl ok.co T (hpg _ _ _ _ _ _ rm) (hpt _ _ _ _ _ _ rm) (hpe _ _ _ _ _ _ rm) turn (fun p hp => by rw [List.mem_singleton.mp hp]; exact haf) (fun b hb => by cases hb) m (m + 1) 0 () _ _ H2 (Nat.lt_succ_self _) trivial J6 st nf w0
end
end Hd

set_option maxHeartbeats 4000000
/-! generator expressions: sum -/
namespace Hd
open PySem PySem.Spec PyProof.Rows L2 GenW
section
variable {X Z : Cx} {pins ip : List (Addr × Obj)} {σ σ0 : L2.St} {H : Hp} {s : Shared} {a S : Addr} {gi : Nat}
theorem pinsAt_one {h : Heap} {o : Obj} (e : h.get? S = some o) : pinsAt [S] h = [(S, o)] := by
  unfold pinsAt
  rw [List.filterMap_cons, e] <;> rfl
/-- the taker's own object is another; all else is kept -/
theorem z_own {o o' : Obj} {h' : Heap} {t' : Nat} (J : Inv Z (pinsAt [S] s.heap ++ ip) σ H s) (eS : s.heap.get? S = some o) (hip : ∀ p ∈ ip, p.1 ∉ [S]) (hpn : ∀ p ∈ Z.pn, p.1 ≠ S) (hy : Z.s_0.heap.objs.size ≤ S) (kp : ∀ b u, b ≠ S → s.heap.get? b = some u → h'.get? b = some u) (ho : h'.get? S = some o') (hc : ∀ v, o'.data ≠ .cell v) :
    Inv Z (pinsAt [S] h' ++ ip) σ H { s with heap := h', toks := t' } := by
  rw [pinsAt_one eS] at J
  obtain ⟨_, p2, p3, p4, p5⟩ := J.pin (S, o) (List.mem_append_right _ (List.mem_append_left _ (List.mem_singleton.mpr rfl)))
  have J0 : Inv Z ip σ H s := J.pins_of fun p hp => J.pin p (List.mem_append_right _ (List.mem_append_right _ hp))
  have nS : ∀ b u, H b = some u → b ≠ S := fun b u e z => by
    rw [z] at e
    exact absurd (e.symm.trans p2) (by simp)
  have out : ∀ b, b ∉ [S] → b ≠ S := fun b hb z => hb (List.mem_singleton.mpr z)
  have un : Un (frs Z.stack) [S] H H s.heap h' := ⟨fun b u e _ _ hx => kp b u (out b hx) e, fun b u e _ _ hx => ⟨u.slots, kp b u (out b hx) e⟩, fun b u e n _ => n, fun b u e hx => ⟨u, kp b u (out b hx) e⟩, fun b xs e => e, fun b u v e => e, fun b ps e => ⟨#[], by rw [e]; simp⟩⟩
  have hk : HOk Z.prog Z.w H h' := fun b u e => by
    refine (J0.hok b u e).stay (fun d v hd y => kp d v ?_ y) (fun _ y => y) fun _ _ y => y
    rcases hd with z | z
    · rw [z]
      exact nS b u e
    · exact nS d _ z
  have J1 : Inv Z ip σ H { s with heap := h', toks := t' } := by
    refine Inv.call' (s' := { s with heap := h', toks := t' }) (ch := [S]) J0 rfl un hk J0.bare fun b hb => ?_
    rw [List.mem_singleton.mp hb]
    refine ⟨.inr hy, p3, fun x c e z => ?_, fun p hp z => ?_⟩
    · obtain ⟨v, ob, h1, h2⟩ := J0.cell x c e
      rw [z, eS] at h1
      cases h1
      exact p5 v h2
    · rcases List.mem_append.mp hp with q | q
      · exact hpn p q z
      · exact hip p q (List.mem_singleton.mpr z)
  rw [pinsAt_one ho]
  refine J1.pins_of fun p hp => ?_
  rcases List.mem_append.mp hp with q | q
  · rw [List.mem_singleton.mp q]
    exact ⟨ho, p2, p3, p4, hc⟩
  · exact J1.pin p (List.mem_append_right _ q)
/-- the taker holds the sum so far -/
def SumGh (S : Addr) : Shared → Int → Prop := fun s c => ∃ t n, s.heap.get? S = some { cls := .type "list", dict := none, data := .seq #[.int c t] n, slots := #[] }
def fits (i : Int) : Prop := -(2 ^ 63) ≤ i ∧ i < 2 ^ 63
/-- each item an int -/
def PSum : Int → V → Hp → (Int → Hp → Prop) → Prop := fun c y H Nx => ∃ i, y = .int i ∧ fits i ∧ fits (c + i) ∧ Nx (c + i) H
theorem sum_loop {A : Around} {QS : Int → Hp → Prop} {R : Result → Shared → Prop} (hh : A.handled = none) (hd : A.depth < recursionLimit) (hpin : ∃ go, (a, go) ∈ Z.pn ∧ ∀ h : Heap, h.get? a = some go → h.IsGen a gi) (hpn : ∀ p ∈ Z.pn, p.1 ≠ S) (hy : Z.s_0.heap.objs.size ≤ S)
    (hR : ∀ c t H s', Inv Z [] σ0 H s' → QS c H → R (.ok (.ret (.int c t))) s') :
    ∀ (n : Nat) (c : Int) (s : Shared), SumGh S s c → GSt Z (SumGh S) [S] σ0 PSum QS A.in1.in1 a gi n s → codeAny (model Z.prog Z.w) A (.builtin "sum.loop" ⟨[.ref a, .ref S, rawInt 0, rawInt 0], []⟩) R s := by
  have same : ∀ {s : Shared} {c c' : Int}, SumGh S s c → SumGh S s c' → c = c' := fun {s c c'} h g => by
    obtain ⟨t, n, e⟩ := h
    obtain ⟨t', n', e'⟩ := g
    rw [e] at e'
    injection e' with e'
    injection e' with _ _ e' _
    injection e' with e' _
    injection e' with e'
    injection e' with e' _
    injection e' with e' _
  intro n
  induction n with
  | zero =>
    intro c s gh G
    obtain ⟨t0, n0, eS⟩ := id gh
    refine codeAny_builtin F.entry_sum_loop ?_
    rw [Around.under_plainId F.plain_sum_loop _]
    show wpAny _ A.in1 (seqItems? (.ref S) >>= _) _ _ s
    refine wpAny_bind (wpAny_seqItems eS rfl ?_)
    show wpAny _ A.in1 (tryCatch (pyNext (.ref a)) _ >>= _) _ _ s
    refine wpAny_bind (wpAny_tryCatch (gen_next (A := A.in1) (fun s1 s2 c e g => by unfold SumGh at g ⊢; rw [e]; exact g) hh hd hpin G (fun c' y v ip σ H s' Nx gh' r J hip p k => ?_) (fun c' H s' gh' J q => ?_)))
    · obtain ⟨i, rfl, ⟨f1, f2⟩, ⟨f3, f4⟩, nx⟩ := p
      obtain rfl := same gh gh'
      obtain ⟨t, rfl⟩ := r
      have eS' : s'.heap.get? S = some { cls := .type "list", dict := none, data := .seq #[.int c t0] n0, slots := #[] } := (J.pin _ (List.mem_append_right _ (List.mem_append_left _ (by rw [pinsAt_one eS]; exact List.mem_singleton.mpr rfl)))).1
      have hc : ((decide (-(2 ^ 63) ≤ i) && decide (i < 2 ^ 63)) && (decide (-(2 ^ 63) ≤ c + i) && decide (c + i < 2 ^ 63))) = true := by
        simp only [Bool.and_eq_true, decide_eq_true_eq]
        exact ⟨⟨f1, f2⟩, f3, f4⟩
      show wpAny _ A.in1 (if (_ : Bool) = true then (mkInt (c + i) >>= _) else _) _ _ _
      split
      · refine wpAny_bind (wpAny_mkInt ?_)
        show wpAny _ A.in1 (updateSeq S (fun _ => #[.int (c + i) s'.toks]) >>= _) _ _ _
        refine wpAny_bind (wpAny_updateSeq eS' rfl (wpAny_pure ⟨plainId_quiet F.plain_sum_loop _, ?_⟩))
        have up := Heap.get?_update_self (h := s'.heap) (a := S) (Obj.mapSeq fun _ => #[.int (c + i) s'.toks]) eS' rfl
        have J0 : Inv Z (pinsAt [S] s'.heap ++ ip) σ H s' := by
          rw [pinsAt_one eS']
          rw [pinsAt_one eS] at J
          exact J
        have J' := z_own (t' := s'.toks + 1) J0 eS' hip hpn hy (h' := s'.heap.update S (Obj.mapSeq fun _ => #[.int (c + i) s'.toks])) (fun b u hb e => (Heap.get?_update_other _ _ (Ne.symm hb)).trans e) up (fun v z => by cases z)
        have g' : SumGh S { s' with heap := s'.heap.update S (Obj.mapSeq fun _ => #[.int (c + i) s'.toks]), toks := s'.toks + 1 } (c + i) := ⟨_, _, up⟩
        obtain ⟨m, e, G'⟩ := k _ (c + i) H J' g' nx rfl
        exact absurd e (by omega)
      · rename_i hneg
        exact absurd hc hneg
    · obtain rfl := same gh gh'
      refine wpAny_pure (hR c t0 H s' (J.pins_of fun p hp => absurd hp (by simp)) q)
  | succ n ih =>
    intro c s gh G
    obtain ⟨t0, n0, eS⟩ := id gh
    refine codeAny_builtin F.entry_sum_loop ?_
    rw [Around.under_plainId F.plain_sum_loop _]
    show wpAny _ A.in1 (seqItems? (.ref S) >>= _) _ _ s
    refine wpAny_bind (wpAny_seqItems eS rfl ?_)
    show wpAny _ A.in1 (tryCatch (pyNext (.ref a)) _ >>= _) _ _ s
    refine wpAny_bind (wpAny_tryCatch (gen_next (A := A.in1) (fun s1 s2 c e g => by unfold SumGh at g ⊢; rw [e]; exact g) hh hd hpin G (fun c' y v ip σ H s' Nx gh' r J hip p k => ?_) (fun c' H s' gh' J q => ?_)))
    · obtain ⟨i, rfl, ⟨f1, f2⟩, ⟨f3, f4⟩, nx⟩ := p
      obtain rfl := same gh gh'
      obtain ⟨t, rfl⟩ := r
      have eS' : s'.heap.get? S = some { cls := .type "list", dict := none, data := .seq #[.int c t0] n0, slots := #[] } := (J.pin _ (List.mem_append_right _ (List.mem_append_left _ (by rw [pinsAt_one eS]; exact List.mem_singleton.mpr rfl)))).1
      have hc : ((decide (-(2 ^ 63) ≤ i) && decide (i < 2 ^ 63)) && (decide (-(2 ^ 63) ≤ c + i) && decide (c + i < 2 ^ 63))) = true := by
        simp only [Bool.and_eq_true, decide_eq_true_eq]
        exact ⟨⟨f1, f2⟩, f3, f4⟩
      show wpAny _ A.in1 (if (_ : Bool) = true then (mkInt (c + i) >>= _) else _) _ _ _
      split
      · refine wpAny_bind (wpAny_mkInt ?_)
        show wpAny _ A.in1 (updateSeq S (fun _ => #[.int (c + i) s'.toks]) >>= _) _ _ _
        refine wpAny_bind (wpAny_updateSeq eS' rfl (wpAny_pure ⟨plainId_quiet F.plain_sum_loop _, ?_⟩))
        have up := Heap.get?_update_self (h := s'.heap) (a := S) (Obj.mapSeq fun _ => #[.int (c + i) s'.toks]) eS' rfl
        have J0 : Inv Z (pinsAt [S] s'.heap ++ ip) σ H s' := by
          rw [pinsAt_one eS']
          rw [pinsAt_one eS] at J
          exact J
        have J' := z_own (t' := s'.toks + 1) J0 eS' hip hpn hy (h' := s'.heap.update S (Obj.mapSeq fun _ => #[.int (c + i) s'.toks])) (fun b u hb e => (Heap.get?_update_other _ _ (Ne.symm hb)).trans e) up (fun v z => by cases z)
        have g' : SumGh S { s' with heap := s'.heap.update S (Obj.mapSeq fun _ => #[.int (c + i) s'.toks]), toks := s'.toks + 1 } (c + i) := ⟨_, _, up⟩
        obtain ⟨m, e, G'⟩ := k _ (c + i) H J' g' nx rfl
        obtain rfl : n = m := by omega
        exact ih (c + i) _ g' G'
      · rename_i hneg
        exact absurd hc hneg
    · obtain rfl := same gh gh'
      refine wpAny_pure (hR c t0 H s' (J.pins_of fun p hp => absurd hp (by simp)) q)
end
end Hd

set_option maxHeartbeats 4000000
namespace Hd
open PySem PySem.Spec PyProof.Rows L2 GenW
section
variable {X : Cx}
def tSumG (P : Addr) (wi : TI) (g : TG) (tt : TT) (te : TE) (vs : List Nat) : TE := fun σ H Q => wi σ H fun J H1 => GxR.TabG H1 P ∧ ∀ H2, GxR.Tabbed P H1 H2 → ∃ W : Int → Nat → Nat → Hp → Prop, (∃ m, W 0 0 m H2) ∧ GTurn σ vs g tt te J PSum (fun c => Q (.int c)) W
/-- the frame with the taker's new object -/
theorem z_new {Z : Cx} {σ : L2.St} {H : Hp} {s : Shared} {o : Obj} {tk : Nat} (J : Inv Z [] σ H s) (hf : (s.heap.push o).get? s.heap.objs.size = some o) (hc : ∀ v, o.data ≠ .cell v) : Inv Z (pinsAt [s.heap.objs.size] (s.heap.push o)) σ H { s with heap := s.heap.push o, toks := tk } := by
  have kp : ∀ b u, s.heap.get? b = some u → (s.heap.push o).get? b = some u := fun b u e => Heap.get?_push_of_some _ e
  have J1 : Inv Z [] σ H { s with heap := s.heap.push o, toks := tk } := Inv.call' (s' := { s with heap := s.heap.push o, toks := tk }) (ch := []) J rfl (Un.kept kp) (J.hok.kept kp) J.bare fun b hb => absurd hb (by simp)
  rw [pinsAt_one hf]
  refine J1.pins_of fun p hp => ?_
  rw [List.mem_singleton.mp hp]
  exact ⟨hf, J.hok.fresh (Nat.le_refl _), Nat.ne_of_gt J.lt, J.nofs (Nat.le_refl _), hc⟩
/-- sum(elt for tg in iter if ..), all of them ints -/
theorem pe_sumG {c P : Addr} {elt tg iter : Expr} {ifs : List Expr} {p pos gpos : Pos} {scope : Scope} {own : List (Str × Nat)} {wi : TI} {g : TG} {tt : TT} {te : TE} {k : Nat} (hr : Room (k + 1) X.A) (hg : Gl X "sum") (hm : X.mg "sum" = none) (TB : GxR.TabB X.base X.mg c P) (hcode : X.env.code = .ref c)
    (ok : GenOk X.N X.env.scope scope own) (hN : X.N.Nodup) (hi : PI X tg iter wi) (hpg : ∀ (A : Around) (s : Shared) (H : Hp) (code : Value) (fp : List Addr) (pn : List (Addr × Obj)), Room k A → PG (gx X A s H (gev X scope s.heap.objs.size code) fp pn) tg g)
    (hpt : ∀ (A : Around) (s : Shared) (H : Hp) (code : Value) (fp : List Addr) (pn : List (Addr × Obj)), Room k A → PTs (gx X A s H (gev X scope s.heap.objs.size code) fp pn) ifs tt) (hpe : ∀ (A : Around) (s : Shared) (H : Hp) (code : Value) (fp : List Addr) (pn : List (Addr × Obj)), Room k A → PE (gx X A s H (gev X scope s.heap.objs.size code) fp pn) elt te)
    (hs : ∀ v, genFold iter X.env v = pure v := by intro _; rfl) (hb : bootBuiltins "sum" = some (.builtin "sum") := by decide +kernel)
    (he : starEach [gExp elt tg iter ifs scope gpos] X.env = (false, eval (gExp elt tg iter ifs scope gpos) X.env) :: starEach [] X.env := by rfl) :
    PE X (.Call (.Name "sum" p) [gExp elt tg iter ifs scope gpos] [] pos) (tSumG P wi g tt te (own.map (·.2))) := by
  refine ⟨fun pins s σ H Q I h => ?_⟩
  refine wpAny_Call_Name_kw (ld_blt I hg hm hb ?_)
  refine PyProof.Rows.callWith_builtin1 ?_ he (by rfl)
  rw [he]
  show wpAny _ _ (spliced ((false, eval (gExp elt tg iter ifs scope gpos) X.env) :: backTo pos (starEach [] X.env))) _ _ s
  refine Calls.spliced_cons (gen_made hr TB hcode ok hN hi hs I h fun J H2 a s5 hR G => ?_)
  obtain ⟨W, ⟨m, w0⟩, turn⟩ := hR
  obtain ⟨it, fp, tn, s4, code, gi, go, I4, T, st, hf, haf, isg, ig5, nl5, gs5, nf, inv⟩ := G.go
  refine Calls.spliced_nil ?_
  refine call_function_tree F.kind_sum F.plain_sum F.entry_sum (F.args_sum1 _) ?_
  unfold Builtin.«sum»
  simp only [List.length_cons, List.length_nil]
  rw [if_neg (by decide)]
  refine wpAny_bind (wpAny_of_eq (show Builtin.Builtins.bindParams "sum" ["start"] 0 { } = pure [none] from rfl) ?_)
  refine wpAny_bind (wpAny_pyIter_gen ig5 (wpAny_bind (wpAny_mkInt (wpAny_bind (wpAny_pure ?_)))))
  simp only [List.forIn_cons, List.forIn_nil]
  refine wpAny_bind (wpAny_bind (wpAny_bind (wpAny_isInstance (T := "int") (b := false) (typeIs_int _ _ _) PySem.sub_int_str ?_)))
  simp only [Bool.false_eq_true, if_false]
  refine wpAny_pure (wpAny_bind (wpAny_bind (wpAny_isInstance (T := "int") (b := false) (typeIs_int _ _ _) PySem.sub_int_bytes ?_)))
  simp only [Bool.false_eq_true, if_false]
  refine wpAny_pure (wpAny_bind (wpAny_bind (wpAny_isInstance (T := "int") (b := false) (typeIs_int _ _ _) PySem.sub_int_bytearray ?_)))
  simp only [Bool.false_eq_true, if_false]
  refine wpAny_pure (wpAny_pure ?_)
  refine wpAny_bind (wpAny_newObj_type (wpAny_pure ⟨plainId_quiet F.plain_sum_loop _, ?_⟩))
  have fr : (X.A.in1.in1.over (.compLoop (gExp elt tg iter ifs scope gpos) 0 (.ref it) .none (gev X scope s4.heap.objs.size code)) []).frames = some (gev X scope s4.heap.objs.size code :: X.stack) := by
    have e : X.A.in1.in1.frames = some X.stack := I4.ok.frames
    unfold Around.over
    dsimp only
    rw [e] <;> rfl
  have rm := over_room (e := gExp elt tg iter ifs scope gpos) (it := .ref it) (acc := .none) (cenv := gev X scope s4.heap.objs.size code) hr rfl rfl
  have J5 := inv _ fr rm.hd
  have hl : ∀ n : Nat, ∀ t : Tok, ∀ v : Option Value, ({ cls := .type "list", dict := none, data := .seq #[.int 0 t] n, slots := #[] } : Obj).data ≠ .cell v := fun n t v z => by cases z
  -- the taker's list
  have ga : a < s5.heap.objs.size := by
    obtain ⟨o, nm, qn, e, _⟩ := ig5
    exact Heap.lt_size e
  have lt5 : ∀ b ∈ fp, b < s5.heap.objs.size := fun b hb => by
    obtain ⟨o, e, _⟩ := T.obj _ _ st b hb
    exact Heap.lt_size e
  have kp : ∀ (o : Obj) b u, s5.heap.get? b = some u → (s5.heap.push o).get? b = some u := fun o b u e => Heap.get?_push_of_some _ e
  have J6 := z_new (o := { cls := .type "list", dict := none, data := .seq #[.int 0 s5.toks] 0, slots := #[] }) (tk := s5.toks + 1) J5 (Heap.get?_push_size _ rfl) (hl _ _)
  have J7 := z_gens J6 (allBare_setGen (g := gi) (x := .running) J6.bare rfl)
  have g6 : SumGh s5.heap.objs.size { s5 with heap := s5.heap.push { cls := .type "list", dict := none, data := .seq #[.int 0 s5.toks] 0, slots := #[] }, toks := s5.toks + 1 } 0 := ⟨_, _, Heap.get?_push_size _ rfl⟩
  refine sum_loop (Z := gx X (X.A.in1.in1.over (.compLoop (gExp elt tg iter ifs scope gpos) 0 (.ref it) .none (gev X scope s4.heap.objs.size code)) []) s4 H2 (gev X scope s4.heap.objs.size code) fp [(a, go)]) (σ0 := wipe σ (own.map (·.2))) (QS := fun c => Q (.int c)) (S := s5.heap.objs.size) (gi := gi) hr.hd (by have := hr.dp; omega) ⟨go, List.mem_singleton.mpr rfl, isg⟩
    (fun p hp => by rw [List.mem_singleton.mp hp]; exact Nat.ne_of_lt ga) J5.sz (fun c t H' s' J q => ⟨.int c, H', z_back I4 hf J, ⟨t, rfl⟩, q⟩) (m + 1) 0 _ g6 ⟨ig5.keeps (kp _), nl5.keeps (kp _), _, gs5, rfl, ?_⟩
  refine seg_gs (fun A Q E hq => T.self A 0 _ Q E (T.keep _ _ _ st fun b _ o e => kp _ b o e) hq) ?_
  exact seg_gx (X := X) _ rfl ok.co T (hpg _ _ _ _ _ _ rm) (hpt _ _ _ _ _ _ rm) (hpe _ _ _ _ _ _ rm) turn (fun p hp => by rw [List.mem_singleton.mp hp]; exact haf) (fun b hb z => by rw [List.mem_singleton.mp hb] at z; exact Nat.lt_irrefl _ (lt5 _ z)) m (m + 1) 0 0 _ _ H2 (Nat.lt_succ_self _) g6 J7 (T.keep _ _ _ st fun b _ o e => kp _ b o e) nf w0
end
end Hd

set_option maxHeartbeats 4000000
/-! generator expressions: tuple -/
namespace Hd
open PySem PySem.Spec PyProof.Rows L2 GenW
abbrev lob (acc : Array Value) (n : Nat) : Obj := { cls := .type "list", dict := none, data := .seq acc n, slots := #[] }
section
variable {X Z : Cx} {pins ip : List (Addr × Obj)} {σ σ0 : L2.St} {H : Hp} {s : Shared} {a S : Addr} {gi : Nat}
/-- the taker holds what has come -/
def TupGh (S : Addr) : Shared → List V → Prop := fun s ys => ∃ acc n, s.heap.get? S = some (lob acc n) ∧ Vals ys acc.toList
def PTup : List V → V → Hp → (List V → Hp → Prop) → Prop := fun ys y H Nx => ys.length < sizeLine ∧ Nx (ys ++ [y]) H
theorem ext_loop {A : Around} {QT : List V → Hp → Prop} {R : Result → Shared → Prop} {res : Value} (hh : A.handled = none) (hd : A.depth < recursionLimit) (hpin : ∃ go, (a, go) ∈ Z.pn ∧ ∀ h : Heap, h.get? a = some go → h.IsGen a gi) (hpn : ∀ p ∈ Z.pn, p.1 ≠ S) (hy : Z.s_0.heap.objs.size ≤ S)
    (hR : ∀ ys acc n H s', Inv Z [] σ0 H s' → s'.heap.get? S = some (lob acc n) → Vals ys acc.toList → QT ys H → R (.ok (.ret res)) s') :
    ∀ (n : Nat) (s : Shared), GSt Z (TupGh S) [S] σ0 PTup QT A.in1.in1 a gi n s → codeAny (model Z.prog Z.w) A (.builtin "list.extend.loop" ⟨[.ref S, .ref a, res], []⟩) R s := by
  have gh0 : ∀ (s1 s2 : Shared) (c : List V), s2.heap = s1.heap → TupGh S s1 c → TupGh S s2 c := fun s1 s2 c e g => by
    unfold TupGh at g ⊢
    rw [e]
    exact g
  have endd : ∀ {s s' : Shared} {c : List V} {H : Hp}, TupGh S s c → Inv Z (pinsAt [S] s.heap) σ0 H s' → QT c H → R (.ok (.ret res)) s' := fun {s s' c H} gh J q => by
    obtain ⟨acc, n, e, r⟩ := gh
    rw [pinsAt_one e] at J
    exact hR c acc n H s' (J.pins_of fun p hp => absurd hp (by simp)) (J.pin _ (List.mem_append_right _ (List.mem_singleton.mpr rfl))).1 r q
  intro n
  induction n with
  | zero =>
    intro s G
    refine codeAny_builtin F.entry_extend_loop ?_
    rw [Around.under_plainId F.plain_extend_loop _]
    show wpAny _ A.in1 (pyNext (.ref a) >>= _) _ _ s
    refine wpAny_bind (gen_next (A := A.in1) gh0 hh hd hpin G (fun c y v ip σ H s' Nx gh r J hip p k => ?_) (fun c H s' gh J q => wpAny_pure (endd gh J q)))
    obtain ⟨acc, c0, eS, rv⟩ := gh
    obtain ⟨hz, nx⟩ := p
    have eS' : s'.heap.get? S = some (lob acc c0) := (J.pin _ (List.mem_append_right _ (List.mem_append_left _ (by rw [pinsAt_one eS]; exact List.mem_singleton.mpr rfl)))).1
    have hl := rv.length
    show wpAny _ A.in1 (updateSeq S (·.push v) >>= _) _ _ _
    refine wpAny_bind ?_
    refine wpAny_updateSeq eS' rfl (wpAny_pure ⟨plainId_quiet F.plain_extend_loop _, ?_⟩) (by rw [← Array.length_toList, ← hl]; exact Nat.le_of_lt hz) (by show (acc.push v).size ≤ sizeLine + 1; rw [Array.size_push, ← Array.length_toList, ← hl]; omega)
    have up := Heap.get?_update_self (h := s'.heap) (a := S) (Obj.mapSeq (·.push v)) eS' rfl
    have J0 : Inv Z (pinsAt [S] s'.heap ++ ip) σ H s' := by
      rw [pinsAt_one eS']
      rw [pinsAt_one eS] at J
      exact J
    have J' := z_own (t' := s'.toks) J0 eS' hip hpn hy (h' := s'.heap.update S (Obj.mapSeq (·.push v))) (fun b u hb e => (Heap.get?_update_other _ _ (Ne.symm hb)).trans e) up (fun v z => by cases z)
    have g' : TupGh S { s' with heap := s'.heap.update S (Obj.mapSeq (·.push v)) } (c ++ [y]) := ⟨_, _, up, by rw [Array.toList_push]; exact rv.append (.cons r .nil)⟩
    obtain ⟨m, e, G'⟩ := k _ (c ++ [y]) H J' g' nx rfl
    exact absurd e (by omega)
  | succ n ih =>
    intro s G
    refine codeAny_builtin F.entry_extend_loop ?_
    rw [Around.under_plainId F.plain_extend_loop _]
    show wpAny _ A.in1 (pyNext (.ref a) >>= _) _ _ s
    refine wpAny_bind (gen_next (A := A.in1) gh0 hh hd hpin G (fun c y v ip σ H s' Nx gh r J hip p k => ?_) (fun c H s' gh J q => wpAny_pure (endd gh J q)))
    obtain ⟨acc, c0, eS, rv⟩ := gh
    obtain ⟨hz, nx⟩ := p
    have eS' : s'.heap.get? S = some (lob acc c0) := (J.pin _ (List.mem_append_right _ (List.mem_append_left _ (by rw [pinsAt_one eS]; exact List.mem_singleton.mpr rfl)))).1
    have hl := rv.length
    show wpAny _ A.in1 (updateSeq S (·.push v) >>= _) _ _ _
    refine wpAny_bind ?_
    refine wpAny_updateSeq eS' rfl (wpAny_pure ⟨plainId_quiet F.plain_extend_loop _, ?_⟩) (by rw [← Array.length_toList, ← hl]; exact Nat.le_of_lt hz) (by show (acc.push v).size ≤ sizeLine + 1; rw [Array.size_push, ← Array.length_toList, ← hl]; omega)
    have up := Heap.get?_update_self (h := s'.heap) (a := S) (Obj.mapSeq (·.push v)) eS' rfl
    have J0 : Inv Z (pinsAt [S] s'.heap ++ ip) σ H s' := by
      rw [pinsAt_one eS']
      rw [pinsAt_one eS] at J
      exact J
    have J' := z_own (t' := s'.toks) J0 eS' hip hpn hy (h' := s'.heap.update S (Obj.mapSeq (·.push v))) (fun b u hb e => (Heap.get?_update_other _ _ (Ne.symm hb)).trans e) up (fun v z => by cases z)
    have g' : TupGh S { s' with heap := s'.heap.update S (Obj.mapSeq (·.push v)) } (c ++ [y]) := ⟨_, _, up, by rw [Array.toList_push]; exact rv.append (.cons r .nil)⟩
    obtain ⟨m, e, G'⟩ := k _ (c ++ [y]) H J' g' nx rfl
    obtain rfl : n = m := by omega
    exact ih _ G'
/-- the around of the frame, four calls deep -/
theorem over_room4 {k : Nat} {A : Around} {e : Expr} {it acc : Value} {cenv : Env} (hr : Room (k + 1) A) (hc : (Code.compLoop e 0 it acc cenv).weight = 1) (hu : (Code.compLoop e 0 it acc cenv).cUnits = 3) : Room k (A.in1.in1.in1.in1.over (.compLoop e 0 it acc cenv) []) := by
  have h1 : (A.in1.in1.in1.in1.over (.compLoop e 0 it acc cenv) []).depth = A.depth + (Code.compLoop e 0 it acc cenv).weight := rfl
  have h2 : (A.in1.in1.in1.in1.over (.compLoop e 0 it acc cenv) []).units = A.in1.in1.in1.in1.units + (Code.compLoop e 0 it acc cenv).cUnits := rfl
  have h3 : A.in1.in1.in1.in1.units = A.units + 1 + 1 + 1 + 1 := rfl
  have d := hr.dp
  have u := hr.un
  refine ⟨hr.hd, ?_, ?_⟩
  · rw [h1, hc]
    omega
  · rw [h2, hu, h3]
    omega
/-- the items, collected: start tells that the generator stands ready once the taker's list at S is there -/
theorem collect_gx {A : Around} {QT : List V → Hp → Prop} {Q : List Value → Shared → Prop} {E : Value → Shared → Prop} {n : Nat} (hh : A.handled = none) (hd : A.depth < recursionLimit) (hpin : ∃ go, (a, go) ∈ Z.pn ∧ ∀ h : Heap, h.get? a = some go → h.IsGen a gi) (hpn : ∀ p ∈ Z.pn, p.1 ≠ s.heap.objs.size) (hy : Z.s_0.heap.objs.size ≤ s.heap.objs.size)
    (isg : s.heap.IsGen a gi) (start : ∀ (h' : Heap) (m : Nat), (∀ b u, s.heap.get? b = some u → h'.get? b = some u) → h'.get? s.heap.objs.size = some (lob #[] m) → GSt Z (TupGh s.heap.objs.size) [s.heap.objs.size] σ0 PTup QT A.in1.in1 a gi n { s with heap := h' })
    (hR : ∀ ys acc m H s', Inv Z [] σ0 H s' → s'.heap.get? s.heap.objs.size = some (lob acc m) → Vals ys acc.toList → QT ys H → Q acc.toList s') : wpAny (model Z.prog Z.w) A (collect (.ref a)) Q E s := by
  have ha : a < s.heap.objs.size := by
    obtain ⟨o, nm, qn, e, _⟩ := isg
    exact Heap.lt_size e
  unfold collect
  refine wpAny_bind (wpAny_runValue (codeAny_builtin F.entry_proto_collect ?_))
  rw [Around.under_plainId F.plain_proto_collect _]
  show wpAny _ A.in1 (newList [] >>= fun l => again (.builtin "list.__iadd__" ⟨[l, .ref a], []⟩)) _ _ s
  refine wpAny_bind (wpAny_newObj_type ?_)
  refine wpAny_pure ⟨plainId_quiet F.plain_list_iadd _, codeAny_builtin F.entry_list_iadd ?_⟩
  rw [Around.under_plainId F.plain_list_iadd _]
  generalize hS : s.heap.objs.size = S at *
  have e1 : (s.heap.push (lob #[] 0)).get? S = some (lob #[] 0) := by
    rw [← hS]
    exact Heap.get?_push_size _ rfl
  have k1 : ∀ b u, s.heap.get? b = some u → (s.heap.push (lob #[] 0)).get? b = some u := fun b u e => Heap.get?_push_of_some _ e
  have ty : ∀ h : Heap, (∀ b u, s.heap.get? b = some u → h.get? b = some u) → Shared.TypeIs { s with heap := h } (.ref a) "generator" := fun h k => Heap.IsGen.typeIs (s := { s with heap := h }) (isg.keeps k)
  show wpAny _ A.in1 (Builtin.List.listExtendWith (.ref S) (.ref a) (.ref S)) _ _ { s with heap := s.heap.push (lob #[] 0) }
  unfold Builtin.List.listExtendWith
  refine wpAny_bind (wpAny_typeOf (ty _ k1) ?_)
  have h1 : Builtin.List.listSameRef (.ref S) (.ref a) = false := by simp [Builtin.List.listSameRef, Nat.ne_of_gt ha]
  have h2 : (Value.type "generator" == Value.type "list") = false := by decide
  have h3 : (Value.type "generator" == Value.type "tuple") = false := by decide
  simp only [h1, h2, h3, Bool.or_false, Bool.false_eq_true, if_false]
  refine wpAny_bind (wpAny_pyIter_gen (s := { s with heap := _ }) (isg.keeps k1) ?_)
  refine wpAny_bind (wpAny_holding ?_)
  unfold Builtin.List.listLengthHint
  refine wpAny_bind (wpAny_specialOf (ty _ k1) F.gen_no_len ?_)
  show wpAny _ A.in1 (specialOf (Value.ref a) (Str.ofString "__length_hint__") >>= _) _ _ _
  refine wpAny_bind (wpAny_specialOf (ty _ k1) F.gen_no_hint ?_)
  refine wpAny_pure ?_
  show wpAny _ A.in1 (rule "list.extend.makes-room" >>= fun _ => Builtin.List.listTouch (.ref S) >>= fun _ =>
    again (.builtin "list.extend.loop" ⟨[.ref S, .ref a, .ref S], []⟩)) _ _ _
  refine wpAny_bind (wpAny_rule ?_)
  refine wpAny_bind ?_
  show wpAny _ A.in1 (updateSeq S (·.push .none) >>= fun _ => updateSeq S (·.pop)) _ _ _
  refine wpAny_bind (wpAny_updateSeq e1 rfl ?_)
  have e2 := Heap.get?_update_self (Obj.mapSeq (·.push Value.none)) e1 rfl
  refine wpAny_updateSeq (hz := by seq_fits) e2 rfl ?_
  have e3 := Heap.get?_update_self (Obj.mapSeq (·.pop)) e2 rfl
  have far : ∀ b u, s.heap.get? b = some u → S ≠ b := fun b u e z => by
    have := Heap.lt_size e
    rw [hS, z] at this
    exact Nat.lt_irrefl _ this
  have k3 : ∀ b u, s.heap.get? b = some u → (((s.heap.push (lob #[] 0)).update S (Obj.mapSeq (·.push Value.none))).update S (Obj.mapSeq (·.pop))).get? b = some u := fun b u e =>
    (Heap.get?_update_other _ _ (far b u e)).trans ((Heap.get?_update_other _ _ (far b u e)).trans (k1 b u e))
  refine wpAny_pure ⟨plainId_quiet F.plain_extend_loop _, ?_⟩
  refine ext_loop (Z := Z) (σ0 := σ0) (QT := QT) (gi := gi) (S := S) (A := A) hh hd hpin hpn hy (fun ys acc m H s' J eS r q => ?_) n _ (start _ _ k3 e3)
  show wpAny _ A (load S >>= _) _ _ s'
  refine wpAny_bind (wpAny_load eS ?_)
  exact wpAny_pure (hR ys acc m H s' J eS r q)
end
end Hd

set_option maxHeartbeats 4000000
/-! generator expressions: tuple(..) as an expression -/
namespace Hd
open PySem PySem.Spec PyProof.Rows L2 GenW
section
variable {prog : Program} {w : World} {A : Around} {E : Value → Shared → Prop} {s : Shared} {a : Addr} {gi : Nat}
theorem tup_made {Q₁ : Value → Shared → Prop} (isg : s.heap.IsGen a gi) (hc : ∀ E', wpAny (model prog w) A.in1 (collect (.ref a)) (fun l s' => l.length ≤ sizeLine ∧ Q₁ (.ref s'.heap.objs.size) { s' with heap := s'.heap.push { cls := .type "tuple", data := .seq l.toArray } }) E' s) :
    codeAny (model prog w) A (.call (.builtin "tuple.__new__") ⟨[.type "tuple", .ref a], []⟩) (wants Q₁ E) s := by
  refine codeAny_of_tree ?_
  show wpAny _ A.in1 (do checkBuiltinCall "tuple.__new__" ⟨[.type "tuple", .ref a], []⟩; again (.builtin "tuple.__new__" ⟨[.type "tuple", .ref a], []⟩)) _ _ s
  refine wpAny_bind (wpAny_of_eq (F.newCall_tuple_1 _) (wpAny_pure ⟨plainId_quiet PySem.F.plain_tuple_new _, codeAny_builtin F.entry_tuple_new ?_⟩))
  rw [Around.under_plainId PySem.F.plain_tuple_new _]
  have hsub := sub_tuple_self
  have hinit := init_tuple_lookup
  have hmh := madeHere_tuple
  have hT : s.TypeIs (.ref a) "generator" := isg.typeIs
  have go : ∀ {Q : List Value → Shared → Prop} {E' : Value → Shared → Prop}, (∀ l s', l.length ≤ sizeLine → Q₁ (.ref s'.heap.objs.size) { s' with heap := s'.heap.push { cls := .type "tuple", data := .seq l.toArray } } → Q l s') → wpAny (model prog w) A.in1 (collect (.ref a)) Q E' s := fun {Q E'} k => wpAny_mono (hc E') (fun l s' h => k l s' h.1 h.2) fun _ _ e => e
  wp_walk using wpAny_typeOf hT, go
  intro l s' hz hq
  show wpAny _ _ (Builtin.Tuple.tupleExact l.toArray >>= fun v => ret v) _ _ _
  unfold Builtin.Tuple.tupleExact
  refine wpAny_bind (wpAny_newObj_type ?_ (by show l.toArray.size ≤ sizeLine; rw [List.size_toArray]; exact hz))
  exact wpAny_pure hq
theorem call_tup {Q : Value → Shared → Prop} (isg : s.heap.IsGen a gi) (hc : ∀ E', wpAny (model prog w) A.in1.in1 (collect (.ref a)) (fun l s' => l.length ≤ sizeLine ∧ Q (.ref s'.heap.objs.size) { s' with heap := s'.heap.push { cls := .type "tuple", data := .seq l.toArray } }) E' s) :
    wpAny (model prog w) A (call (.type "tuple") [.ref a]) Q E s := by
  refine callType_codes (Q₁ := fun obj s₁ => s₁.TypeIs obj "tuple" ∧ Q obj s₁) F.called_tuple (F.typeCall_tuple_1 _) F.entry_object_init
    (tup_made isg fun E' => wpAny_mono (hc E') (fun l s' h => ⟨h.1, ⟨_, Heap.get?_push_size _ rfl, rfl⟩, h.2⟩) fun _ _ e => e) fun obj s₁ h₁ => ?_
  exact ⟨h₁.1, F.args_object_init_2 obj _, object_init_meets F.called_tuple.init.lookup F.called_tuple.made (by decide) prog w A.in1 _ s₁ ⟨h₁.1, rfl, h₁.2⟩⟩
end
end Hd

set_option maxHeartbeats 4000000
namespace Hd
open PySem PySem.Spec PyProof.Rows L2 GenW
section
variable {X : Cx}
def tTupG (P : Addr) (wi : TI) (g : TG) (tt : TT) (te : TE) (vs : List Nat) : TE := fun σ H Q => wi σ H fun J H1 => GxR.TabG H1 P ∧ ∀ H2, GxR.Tabbed P H1 H2 → ∃ W : List V → Nat → Nat → Hp → Prop, (∃ m, W [] 0 m H2) ∧ GTurn σ vs g tt te J PTup (fun ys H => ys.length ≤ sizeLine ∧ ∀ p, H p = none → Q (.ref p) (upd H p (.tup ys))) W
theorem z_new2 {Z : Cx} {σ : L2.St} {H : Hp} {s : Shared} {h' : Heap} {o : Obj} (J : Inv Z [] σ H s) (kp : ∀ b u, s.heap.get? b = some u → h'.get? b = some u) (hf : h'.get? s.heap.objs.size = some o) (hc : ∀ v, o.data ≠ .cell v) : Inv Z (pinsAt [s.heap.objs.size] h') σ H { s with heap := h' } := by
  have J1 : Inv Z [] σ H { s with heap := h' } := Inv.call' (s' := { s with heap := h' }) (ch := []) J rfl (Un.kept kp) (J.hok.kept kp) J.bare fun b hb => absurd hb (by simp)
  rw [pinsAt_one hf]
  refine J1.pins_of fun p hp => ?_
  rw [List.mem_singleton.mp hp]
  exact ⟨hf, J.hok.fresh (Nat.le_refl _), Nat.ne_of_gt J.lt, J.nofs (Nat.le_refl _), hc⟩
/-- tuple(elt for tg in iter if ..) -/
theorem pe_tupG {c P : Addr} {elt tg iter : Expr} {ifs : List Expr} {p pos gpos : Pos} {scope : Scope} {own : List (Str × Nat)} {wi : TI} {g : TG} {tt : TT} {te : TE} {k : Nat} (hr : Room (k + 1) X.A) (hg : Gl X "tuple") (hm : X.mg "tuple" = none) (TB : GxR.TabB X.base X.mg c P) (hcode : X.env.code = .ref c)
    (ok : GenOk X.N X.env.scope scope own) (hN : X.N.Nodup) (hi : PI X tg iter wi) (hpg : ∀ (A : Around) (s : Shared) (H : Hp) (code : Value) (fp : List Addr) (pn : List (Addr × Obj)), Room k A → PG (gx X A s H (gev X scope s.heap.objs.size code) fp pn) tg g)
    (hpt : ∀ (A : Around) (s : Shared) (H : Hp) (code : Value) (fp : List Addr) (pn : List (Addr × Obj)), Room k A → PTs (gx X A s H (gev X scope s.heap.objs.size code) fp pn) ifs tt) (hpe : ∀ (A : Around) (s : Shared) (H : Hp) (code : Value) (fp : List Addr) (pn : List (Addr × Obj)), Room k A → PE (gx X A s H (gev X scope s.heap.objs.size code) fp pn) elt te)
    (hs : ∀ v, genFold iter X.env v = pure v := by intro _; rfl) (hb : bootBuiltins "tuple" = some (.type "tuple") := by decide +kernel)
    (he : starEach [gExp elt tg iter ifs scope gpos] X.env = (false, eval (gExp elt tg iter ifs scope gpos) X.env) :: starEach [] X.env := by rfl) :
    PE X (.Call (.Name "tuple" p) [gExp elt tg iter ifs scope gpos] [] pos) (tTupG P wi g tt te (own.map (·.2))) := by
  refine ⟨fun pins s σ H Q I h => ?_⟩
  refine wpAny_Call_Name_kw (ld_blt I hg hm hb ?_)
  refine PyProof.Rows.callWith_type1 ?_ he (by rfl)
  rw [he]
  show wpAny _ _ (spliced ((false, eval (gExp elt tg iter ifs scope gpos) X.env) :: backTo pos (starEach [] X.env))) _ _ s
  refine Calls.spliced_cons (gen_made hr TB hcode ok hN hi hs I h fun J H2 a s5 hR G => ?_)
  obtain ⟨W, ⟨m, w0⟩, turn⟩ := hR
  obtain ⟨it, fp, tn, s4, code, gi, go, I4, T, st, hf, haf, isg, ig5, nl5, gs5, nf, inv⟩ := G.go
  refine Calls.spliced_nil ?_
  have fr : (X.A.in1.in1.in1.in1.over (.compLoop (gExp elt tg iter ifs scope gpos) 0 (.ref it) .none (gev X scope s4.heap.objs.size code)) []).frames = some (gev X scope s4.heap.objs.size code :: X.stack) := by
    have e : X.A.in1.in1.in1.in1.frames = some X.stack := I4.ok.frames
    unfold Around.over
    dsimp only
    rw [e] <;> rfl
  have rm := over_room4 (e := gExp elt tg iter ifs scope gpos) (it := .ref it) (acc := .none) (cenv := gev X scope s4.heap.objs.size code) hr rfl rfl
  have J5 := inv _ fr rm.hd
  have ga : a < s5.heap.objs.size := by
    obtain ⟨o, nm, qn, e, _⟩ := ig5
    exact Heap.lt_size e
  have lt5 : ∀ b ∈ fp, b < s5.heap.objs.size := fun b hb => by
    obtain ⟨o, e, _⟩ := T.obj _ _ st b hb
    exact Heap.lt_size e
  refine call_tup ig5 fun E' => ?_
  refine collect_gx (Z := gx X (X.A.in1.in1.in1.in1.over (.compLoop (gExp elt tg iter ifs scope gpos) 0 (.ref it) .none (gev X scope s4.heap.objs.size code)) []) s4 H2 (gev X scope s4.heap.objs.size code) fp [(a, go)]) (A := X.A.in1.in1) (σ0 := wipe σ (own.map (·.2))) (QT := fun ys H => ys.length ≤ sizeLine ∧ ∀ p, H p = none → Q (.ref p) (upd H p (.tup ys))) (gi := gi) (n := m + 1) hr.hd (by have := hr.dp; show X.A.depth < _; omega) ⟨go, List.mem_singleton.mpr rfl, isg⟩
    (fun p hp => by rw [List.mem_singleton.mp hp]; exact Nat.ne_of_lt ga) J5.sz ig5 (fun h' mm kp eS => ?_) (fun ys acc mm H' s' J _ r q => ?_)
  · have J6 := z_new2 J5 kp eS (fun v z => by cases z)
    have J7 := z_gens J6 (allBare_setGen (g := gi) (x := .running) J6.bare rfl)
    have g6 : TupGh s5.heap.objs.size { s5 with heap := h' } [] := ⟨_, _, eS, .nil⟩
    refine ⟨ig5.keeps kp, nl5.keeps kp, _, gs5, rfl, ?_⟩
    refine seg_gs (fun A Q E hq => T.self A 0 _ Q E (T.keep _ _ _ st fun b _ o e => kp b o e) hq) ?_
    exact seg_gx (X := X) _ rfl ok.co T (hpg _ _ _ _ _ _ rm) (hpt _ _ _ _ _ _ rm) (hpe _ _ _ _ _ _ rm) turn (fun p hp => by rw [List.mem_singleton.mp hp]; exact haf) (fun b hb z => by rw [List.mem_singleton.mp hb] at z; exact Nat.lt_irrefl _ (lt5 _ z)) m (m + 1) 0 [] _ _ H2 (Nat.lt_succ_self _) g6 J7 (T.keep _ _ _ st fun b _ o e => kp b o e) nf w0
  · have I6 := z_back I4 hf J
    obtain ⟨hz, hq⟩ := q
    refine ⟨by rw [← r.length]; exact hz, .ref s'.heap.objs.size, upd H' s'.heap.objs.size (.tup ys), I6.laid (t' := s'.toks) (fun b u e => Heap.get?_push_of_some _ e) (Nat.le_refl _) ⟨hz, acc.toList, r, ⟨_, Heap.get?_push_size _ rfl, rfl, _, rfl⟩⟩, rfl, hq _ (I6.hok.fresh (Nat.le_refl _))⟩
end
end Hd

set_option maxHeartbeats 4000000
namespace Hd
open PySem PySem.Spec PyProof.Rows L2
/-- the turns over a tuple -/
theorem gt_tup {C : Type} {K : PySem.W.Frag} {a : Addr} {xs : List V} {σ : L2.St} {vs : List Nat} {g : TG} {tt : TT} {te : TE} {P : C → V → Hp → (C → Hp → Prop) → Prop} {Z0 : C → Hp → Prop} (Pv : C → Nat → Hp → Prop) (hl : ∀ c i H, i ≤ xs.length → Pv c i H → SqT K H a xs)
    (hs : ∀ c i x H, xs[i]? = some x → Pv c i H → g x (wipe σ vs) H fun σ2 H2 => wipe σ2 vs = wipe σ vs ∧ tt σ2 H2 fun b H3 => if b = true then te σ2 H3 fun y H4 => P c y H4 (fun c' H' => Pv c' (i + 1) H') else Pv c (i + 1) H3) (hd : ∀ c H, Pv c xs.length H → Z0 c H) {c0 : C} {H0 : Hp} (h0 : Pv c0 0 H0) :
    ∃ W : C → Nat → Nat → Hp → Prop, (∃ m, W c0 0 m H0) ∧ GTurn σ vs g tt te (Itt K a) P Z0 W := by
  refine ⟨fun c i m H => m = xs.length - i ∧ i ≤ xs.length ∧ Pv c i H, ⟨xs.length, by simp, Nat.zero_le _, h0⟩, ?_⟩
  rintro c i m H ⟨em, hi, p⟩
  have q := hl c i H hi p
  by_cases lt : i < xs.length
  · refine .inr ⟨⟨xs, xs[i], q, List.getElem?_eq_getElem lt⟩, fun c' H' => Pv c' (i + 1) H', fun c' H' p' => ⟨m - 1, by omega, by omega, lt, p'⟩, ?_⟩
    rintro x H' ⟨rfl, at_⟩
    exact hs c i x _ (at_ xs q) p
  · have e : i = xs.length := by omega
    subst e
    exact .inl ⟨⟨xs, q, Nat.le_refl _⟩, hd c H p⟩
end Hd

set_option maxHeartbeats 4000000
/-! generator expressions of two clauses -/
namespace Hd
open PySem PySem.Spec PyProof.Rows L2 GenW
abbrev gExp2 (elt tg iter tg2 iter2 : Expr) (ifs ifs2 : List Expr) (scope : Scope) (pos : Pos) : Expr := .GeneratorExp elt [⟨tg, iter, ifs, 0⟩, ⟨tg2, iter2, ifs2, 0⟩] scope pos
section
variable {elt tg iter tg2 iter2 : Expr} {ifs ifs2 : List Expr} {scope : Scope} {pos : Pos}
theorem turn_in (it acc : Value) (env : Env) : compTurn (gExp2 elt tg iter tg2 iter2 ifs ifs2 scope pos) 1 it acc env = (do
      standAt iter2.pos
      match ← pyNext it with
      | none => pure (.done .next)
      | some v =>
        letOwnedTupleGo tg2 it v
        assign tg2 env v
        let mut go := true
        for q in ifs2 do
          if go then go ← isTrue q env (eval q env)
        if go then
          (do let z ← eval elt env; standAt elt.pos; let _ ← yieldOut env z)
        again (.compLoop (gExp2 elt tg iter tg2 iter2 ifs ifs2 scope pos) 1 it acc env)) := by rfl
theorem turn_out (it acc : Value) (env : Env) : compTurn (gExp2 elt tg iter tg2 iter2 ifs ifs2 scope pos) 0 it acc env = (do
      standAt iter.pos
      match ← pyNext it with
      | none => pure (.done .next)
      | some v =>
        letOwnedTupleGo tg it v
        assign tg env v
        let mut go := true
        for q in ifs do
          if go then go ← isTrue q env (eval q env)
        if go then
          let x ← eval iter2 env
          standAt iter2.pos
          let x ← foldedSetIterable iter2 env x
          let _ ← runOwn (.compStart (gExp2 elt tg iter tg2 iter2 ifs ifs2 scope pos) 1 (← holding [x] (pyIter x)) acc env) env
        again (.compLoop (gExp2 elt tg iter tg2 iter2 ifs ifs2 scope pos) 0 it acc env)) := by rfl
end
section
variable {C : Type} {Gh : Shared → C → Prop} {Ss : List Addr} {Z : Cx} {B : Around} {cenv : Env} {elt tg iter tg2 iter2 : Expr} {ifs ifs2 : List Expr} {scope : Scope} {pos : Pos} {it2 : Addr} {fs : List Frame} {R : GenEnd} {P : C → V → Hp → (C → Hp → Prop) → Prop} {g : TG} {tt : TT} {te : TE} {J : It} {fp : List Addr} {tn : Nat → Heap → Prop} {σ0 : L2.St} {vs : List Nat} {ip1 : List (Addr × Obj)} {W : C → Nat → Nat → Hp → Prop} {Z2 : C → Nat → Hp → Prop}
/-- one turn of the inner loop; at its end the measure is told on -/
def GTurn2 {C : Type} (σ : L2.St) (vs : List Nat) (g : TG) (tt : TT) (te : TE) (J : It) (P : C → V → Hp → (C → Hp → Prop) → Prop) (Z2 : C → Nat → Hp → Prop) (W : C → Nat → Nat → Hp → Prop) : Prop := ∀ c i m H, W c i m H →
  (J.stop i H ∧ Z2 c m H) ∨ (J.go i H ∧ ∃ Nx : C → Hp → Prop, (∀ c' H', Nx c' H' → ∃ m', m' < m ∧ W c' (i + 1) m' H') ∧ ∀ x H', J.yld i H x H' → g x (wipe σ vs) H' fun σ2 H2 => wipe σ2 vs = wipe σ vs ∧ tt σ2 H2 fun b H3 => if b = true then te σ2 H3 fun y H4 => P c y H4 Nx else Nx c H3)
theorem seg_in (hA : B.over (.compLoop (gExp2 elt tg iter tg2 iter2 ifs ifs2 scope pos) 1 (.ref it2) .none cenv) fs = Z.A) (hfs : splitAtGen fs = none) (hfg : fs.any Frame.guarded = false) (hp4 : Z.env = cenv) (hp5 : Z.calm = true) (hp8 : Z.xe = fun _ _ => False) (hco : cenv.scope.isCoroutine = false)
    (T : Turn Z.prog Z.w Z.K tg2 J fp it2 tn) (hfp : ∀ (H : Hp) (hp : Heap), (∀ b ∈ fp, H b = none) → ∀ b ∈ fp, FpOk Z (pinsAt Ss hp ++ ip1) H b) (hSs : ∀ p ∈ ip1, p.1 ∉ Ss) (hSf : ∀ b ∈ fp, b ∉ Ss) (pg : PG Z tg2 g) (pt : PTs Z ifs2 tt) (pe : PE Z elt te) (turn : GTurn2 σ0 vs g tt te J P Z2 W)
    (tail : ∀ (n : Nat) (s₀ s : Shared) (c : C) (m : Nat) (H : Hp), m < n → Gh s₀ c → Inv Z (pinsAt Ss s₀.heap ++ ip1) (wipe σ0 vs) H s → Z2 c m H → Seg (model Z.prog Z.w) B R (GYld Z Gh Ss P) n s₀ (.compLoop (gExp2 elt tg iter tg2 iter2 ifs ifs2 scope pos) 1 (.ref it2) .none cenv) (leafOf (.ok .next)) fs s) :
    ∀ (m n i : Nat) (c : C) (s₀ s : Shared) (H : Hp), m < n → Gh s₀ c → Inv Z (pinsAt Ss s₀.heap ++ ip1) (wipe σ0 vs) H s → tn i s.heap → (∀ b ∈ fp, H b = none) → W c i m H →
      Seg (model Z.prog Z.w) B R (GYld Z Gh Ss P) n s₀ (.compLoop (gExp2 elt tg iter tg2 iter2 ifs ifs2 scope pos) 1 (.ref it2) .none cenv) ((model Z.prog Z.w).den (.compLoop (gExp2 elt tg iter tg2 iter2 ifs ifs2 scope pos) 1 (.ref it2) .none cenv)) fs s := by
  intro m
  induction m using Nat.strongRecOn with
  | _ m ih =>
    intro n i c s₀ s H hmn gh I st nf w
    show Seg _ B _ _ n s₀ _ ((compTurn (gExp2 elt tg iter tg2 iter2 ifs ifs2 scope pos) 1 (.ref it2) .none cenv).onRaise _) fs s
    rw [turn_in, Sem.onRaise_eq_wrap]
    refine seg_bind_wrap (wpAny_standAt ?_)
    rcases turn c i m H w with ⟨stop, hz⟩ | ⟨go, Nx, hNx, step⟩
    · have td := T.done Z rfl rfl rfl hp5 i _ s _ H (fun _ _ => False) I (hfp H _ nf) st stop
      rw [← hA] at td
      refine seg_bind_wrap (wpAny_mono td (fun r s6 hr => ?_) fun _ _ e => e.elim)
      obtain ⟨rfl, I6⟩ := hr
      exact tail n s₀ s6 c m H hmn gh I6 hz
    · have ti := T.item Z rfl rfl rfl hp5 i _ s _ H (fun _ _ => False) I (hfp H _ nf) st go
      rw [← hA] at ti
      refine seg_bind_wrap (wpAny_mono ti (fun r s6 hr => ?_) fun _ _ e => e.elim)
      obtain ⟨u, rfl, h6⟩ := hr
      refine seg_bind_wrap (wpAny_mono h6 (fun _ s7 h7 => ?_) fun _ _ e => e.elim)
      obtain ⟨x, H7, I7, r7, y7, st7, n7⟩ := h7
      have I7' := I7.pinned (hfp H7 _ n7) (T.obj _ _ st7)
      have go8 := pg.run _ s7 _ H7 x u _ I7' r7 (step x H7 y7)
      rw [hp4, hp8, ← hA] at go8
      refine seg_bind_wrap (wpAny_mono go8 (fun _ s8 h8 => ?_) fun _ _ e => e.elim)
      obtain ⟨σ8, H8, I8, hw8, q8⟩ := h8
      have go9 := pt.run _ s8 σ8 H8 _ I8 q8
      rw [hp4, hp8, ← hA] at go9
      refine seg_bind_wrap (wpAny_mono go9 (fun b s9 h9 => ?_) fun _ _ e => e.elim)
      obtain ⟨H9, I9, q9⟩ := h9
      have fin : ∀ {s₀' s' : Shared} {c' : C} {H' : Hp} {n' : Nat}, m ≤ n' → Gh s₀' c' → Inv Z (pinsAt Ss s₀'.heap ++ (ip1 ++ pinsAt fp s7.heap)) σ8 H' s' → Nx c' H' → Seg (model Z.prog Z.w) B R (GYld Z Gh Ss P) n' s₀' (.compLoop (gExp2 elt tg iter tg2 iter2 ifs ifs2 scope pos) 1 (.ref it2) .none cenv) (.pure (.again (.compLoop (gExp2 elt tg iter tg2 iter2 ifs ifs2 scope pos) 1 (.ref it2) .none cenv))) fs s' := fun {s₀' s' c' H' n'} hm gh' I' nx => by
        obtain ⟨m', hm', w'⟩ := hNx c' H' nx
        rw [← List.append_assoc] at I'
        have pin' : ∀ b ∈ fp, ∀ o, s7.heap.get? b = some o → s'.heap.get? b = some o ∧ H' b = none := fun b hb o e =>
          let z := I'.pin (b, o) (List.mem_append_right _ (List.mem_append_right _ (mem_pinsAt hb e)))
          ⟨z.1, z.2.1⟩
        have hl : (wipe σ0 vs).length = σ8.length := by rw [← hw8, wipe_length]
        refine seg_again rfl (ih m' hm' n' (i + 1) c' s₀' s' H' (by omega) gh' ((I'.unpinned (pins := pinsAt Ss s₀'.heap ++ ip1)).weak hl (fun j v e => ?_)) (T.keep _ _ _ st7 fun b hb o e => (pin' b hb o e).1) (fun b hb => ?_) w')
        · rw [← hw8] at e
          exact (wipe_some e).1
        · obtain ⟨o, e, _⟩ := T.obj _ _ st7 b hb
          exact (pin' b hb o e).2
      cases b with
      | false =>
        simp only [Bool.false_eq_true, if_false] at q9 ⊢
        rw [List.append_assoc] at I9
        exact fin (Nat.le_of_lt hmn) gh I9 q9
      | true =>
        simp only [if_true] at q9 ⊢
        have plain : ∀ v, yieldOut cenv v = yieldValue v := fun v => by
          unfold yieldOut
          rw [hco, if_neg (by decide)]
        simp only [plain]
        rw [Sem.bind_eq_wrap', Sem.bind_eq_wrap', Sem.wrap_wrap, Sem.wrap_wrap]
        have go10 := pe.run _ s9 σ8 H9 _ I9 q9
        rw [hp4, hp8, ← hA] at go10
        refine seg_wrap (wpAny_mono go10 (fun v s10 h10 => ?_) fun _ _ e => e.elim)
        obtain ⟨y, H10, I10, r10, q10⟩ := h10
        rw [List.append_assoc] at I10
        obtain ⟨n', rfl⟩ : ∃ n', n = n' + 1 := ⟨n - 1, by omega⟩
        refine seg_at (seg_yield hfs rfl hfg ⟨c, y, σ8, H10, _, Nx, gh, r10, I10, fun p hp => ?_, q10, fun s' c' H' I' gh' nx => fin (by omega) gh' I' nx⟩)
        rcases List.mem_append.mp hp with q | q
        · exact hSs p q
        · exact hSf _ (of_pinsAt q).1
end
end Hd

set_option maxHeartbeats 4000000
namespace Hd
open PySem PySem.Spec PyProof.Rows L2 GenW
section
variable {C : Type} {Gh : Shared → C → Prop} {Ss : List Addr} {X : Cx} {B : Around} {s0 : Shared} {H0 : Hp} {cenv : Env} {fp : List Addr} {pn : List (Addr × Obj)} {elt tg iter tg2 iter2 : Expr} {ifs ifs2 : List Expr} {scope : Scope} {pos : Pos} {it : Addr} {σ0 : L2.St} {vs vs2 : List Nat} {g g2 : TG} {tt tt2 : TT} {te : TE} {J : It} {wi2 : TI} {tn : Nat → Heap → Prop} {P : C → V → Hp → (C → Hp → Prop) → Prop} {Z0 : C → Hp → Prop} {W : C → Nat → Nat → Hp → Prop}
/-- one turn of the outer loop -/
def GTurnO {C : Type} (σ : L2.St) (vs : List Nat) (g : TG) (tt : TT) (wi2 : TI) (vs2 : List Nat) (g2 : TG) (tt2 : TT) (te : TE) (J : It) (P : C → V → Hp → (C → Hp → Prop) → Prop) (Z0 : C → Hp → Prop) (W : C → Nat → Nat → Hp → Prop) : Prop := ∀ c i m H, W c i m H →
  (J.stop i H ∧ Z0 c H) ∨ (J.go i H ∧ ∀ x H', J.yld i H x H' → g x (wipe σ vs) H' fun σ2 H2 => wipe σ2 vs = wipe σ vs ∧ tt σ2 H2 fun b H3 => if b = true then wi2 σ2 H3 fun J2 H4 => ∃ W2 : C → Nat → Nat → Hp → Prop, (∃ m', m' < m ∧ W2 c 0 m' H4) ∧ GTurn2 σ2 vs2 g2 tt2 te J2 P (fun c' m' H' => m' < m ∧ W c' (i + 1) m' H') W2 else ∃ m', m' < m ∧ W c (i + 1) m' H3)
theorem seg_out (Z : Cx) (hZ : Z = gx X (B.over (.compLoop (gExp2 elt tg iter tg2 iter2 ifs ifs2 scope pos) 0 (.ref it) .none cenv) []) s0 H0 cenv fp pn) (hco : cenv.scope.isCoroutine = false) (hs2 : ∀ x, foldedSetIterable iter2 cenv x = pure x) (T : Turn X.prog X.w X.K tg J fp it tn) (pg : PG Z tg g) (pt : PTs Z ifs tt) (pi2 : PI Z tg2 iter2 wi2) (pg2 : PG Z tg2 g2) (pt2 : PTs Z ifs2 tt2) (pe : PE Z elt te)
    (turn : GTurnO σ0 vs g tt wi2 vs2 g2 tt2 te J P Z0 W) (hpn : ∀ p ∈ pn, p.1 ∉ fp) (hSs : ∀ b ∈ Ss, b ∉ fp) (hGS : ∀ s c, Gh s c → ∀ b ∈ Ss, ∃ o, s.heap.get? b = some o) (hvs : ∀ σ : L2.St, wipe (wipe σ vs2) vs = wipe σ vs) :
    ∀ (m n i : Nat) (c : C) (s₀ s : Shared) (H : Hp), m < n → Gh s₀ c → Inv Z (pinsAt Ss s₀.heap) (wipe σ0 vs) H s → tn i s.heap → (∀ b ∈ fp, H b = none) → W c i m H →
      Seg (model Z.prog Z.w) B (GEnd Z Gh Ss (wipe σ0 vs) Z0) (GYld Z Gh Ss P) n s₀ (.compLoop (gExp2 elt tg iter tg2 iter2 ifs ifs2 scope pos) 0 (.ref it) .none cenv) ((model Z.prog Z.w).den (.compLoop (gExp2 elt tg iter tg2 iter2 ifs ifs2 scope pos) 0 (.ref it) .none cenv)) [] s := by
  subst hZ
  have stat : ∀ {hp : Heap} {σ' : L2.St} {H' : Hp} {s' : Shared}, Inv (gx X (B.over (.compLoop (gExp2 elt tg iter tg2 iter2 ifs ifs2 scope pos) 0 (.ref it) .none cenv) []) s0 H0 cenv fp pn) (pinsAt Ss hp) σ' H' s' → (∀ b ∈ fp, H' b = none) → ∀ b ∈ fp, FpOk (gx X (B.over (.compLoop (gExp2 elt tg iter tg2 iter2 ifs ifs2 scope pos) 0 (.ref it) .none cenv) []) s0 H0 cenv fp pn) (pinsAt Ss hp) H' b := fun {hp σ' H' s'} I' hn b hb => by
    refine ⟨hn b hb, (I'.ok.exf b hb).1, I'.ok.exfs b hb, .inl hb, fun x c e => (I'.ok.exf b hb).2 x c e, fun p hq z => ?_⟩
    rcases List.mem_append.mp hq with q | q
    · exact hpn p q (by rw [z]; exact hb)
    · exact hSs p.1 (of_pinsAt q).1 (by rw [z]; exact hb)
  have T' : Turn (gx X (B.over (.compLoop (gExp2 elt tg iter tg2 iter2 ifs ifs2 scope pos) 0 (.ref it) .none cenv) []) s0 H0 cenv fp pn).prog (gx X (B.over (.compLoop (gExp2 elt tg iter tg2 iter2 ifs ifs2 scope pos) 0 (.ref it) .none cenv) []) s0 H0 cenv fp pn).w (gx X (B.over (.compLoop (gExp2 elt tg iter tg2 iter2 ifs ifs2 scope pos) 0 (.ref it) .none cenv) []) s0 H0 cenv fp pn).K tg J fp it tn := T
  clear T
  generalize hZ : gx X (B.over (.compLoop (gExp2 elt tg iter tg2 iter2 ifs ifs2 scope pos) 0 (.ref it) .none cenv) []) s0 H0 cenv fp pn = Z at *
  have hAo : B.over (.compLoop (gExp2 elt tg iter tg2 iter2 ifs ifs2 scope pos) 0 (.ref it) .none cenv) [] = Z.A := by rw [← hZ] <;> rfl
  have hp4 : Z.env = cenv := by rw [← hZ] <;> rfl
  have hp5 : Z.calm = true := by rw [← hZ] <;> rfl
  have hp8 : Z.xe = fun _ _ => False := by rw [← hZ] <;> rfl
  intro m
  induction m using Nat.strongRecOn with
  | _ m ih =>
    intro n i c s₀ s H hmn gh I st nf w
    show Seg _ B _ _ n s₀ _ ((compTurn (gExp2 elt tg iter tg2 iter2 ifs ifs2 scope pos) 0 (.ref it) .none cenv).onRaise _) [] s
    rw [turn_out, Sem.onRaise_eq_wrap]
    refine seg_bind_wrap (wpAny_standAt ?_)
    rcases turn c i m H w with ⟨stop, hz⟩ | ⟨go, step⟩
    · have td := T'.done Z rfl rfl rfl hp5 i _ s _ H (fun _ _ => False) I (stat I nf) st stop
      rw [← hAo] at td
      refine seg_bind_wrap (wpAny_mono td (fun r s6 hr => ?_) fun _ _ e => e.elim)
      obtain ⟨rfl, I6⟩ := hr
      exact seg_end (.ok .next) (.inl ⟨.inr rfl, c, H, gh, I6, hz⟩)
    · have ti := T'.item Z rfl rfl rfl hp5 i _ s _ H (fun _ _ => False) I (stat I nf) st go
      rw [← hAo] at ti
      refine seg_bind_wrap (wpAny_mono ti (fun r s6 hr => ?_) fun _ _ e => e.elim)
      obtain ⟨u, rfl, h6⟩ := hr
      refine seg_bind_wrap (wpAny_mono h6 (fun _ s7 h7 => ?_) fun _ _ e => e.elim)
      obtain ⟨x, H7, I7, r7, y7, st7, n7⟩ := h7
      have I7' := I7.pinned (stat I7 n7) (T'.obj _ _ st7)
      have go8 := pg.run _ s7 _ H7 x u _ I7' r7 (step x H7 y7)
      rw [hp4, hp8, ← hAo] at go8
      refine seg_bind_wrap (wpAny_mono go8 (fun _ s8 h8 => ?_) fun _ _ e => e.elim)
      obtain ⟨σ8, H8, I8, hw8, q8⟩ := h8
      have go9 := pt.run _ s8 σ8 H8 _ I8 q8
      rw [hp4, hp8, ← hAo] at go9
      refine seg_bind_wrap (wpAny_mono go9 (fun b s9 h9 => ?_) fun _ _ e => e.elim)
      obtain ⟨H9, I9, q9⟩ := h9
      have fin : ∀ {s₀' s' : Shared} {c' : C} {H' : Hp} {n' m' : Nat} {σ' : L2.St}, m' < m → m' < n' → wipe σ' vs = wipe σ0 vs → Gh s₀' c' → Inv Z (pinsAt Ss s₀'.heap ++ pinsAt fp s7.heap) σ' H' s' → W c' (i + 1) m' H' → Seg (model Z.prog Z.w) B (GEnd Z Gh Ss (wipe σ0 vs) Z0) (GYld Z Gh Ss P) n' s₀' (.compLoop (gExp2 elt tg iter tg2 iter2 ifs ifs2 scope pos) 0 (.ref it) .none cenv) (.pure (.again (.compLoop (gExp2 elt tg iter tg2 iter2 ifs ifs2 scope pos) 0 (.ref it) .none cenv))) [] s' := fun {s₀' s' c' H' n' m' σ'} hm hn' hw' gh' I' w' => by
        have pin' : ∀ b ∈ fp, ∀ o, s7.heap.get? b = some o → s'.heap.get? b = some o ∧ H' b = none := fun b hb o e =>
          let z := I'.pin (b, o) (List.mem_append_right _ (List.mem_append_right _ (mem_pinsAt hb e)))
          ⟨z.1, z.2.1⟩
        have hl : (wipe σ0 vs).length = σ'.length := by rw [← hw', wipe_length]
        refine seg_again rfl (ih m' hm n' (i + 1) c' s₀' s' H' hn' gh' ((I'.unpinned (pins := pinsAt Ss s₀'.heap)).weak hl (fun j v e => ?_)) (T'.keep _ _ _ st7 fun b hb o e => (pin' b hb o e).1) (fun b hb => ?_) w')
        · rw [← hw'] at e
          exact (wipe_some e).1
        · obtain ⟨o, e, _⟩ := T'.obj _ _ st7 b hb
          exact (pin' b hb o e).2
      cases b with
      | false =>
        simp only [Bool.false_eq_true, if_false] at q9 ⊢
        obtain ⟨m', hm', w'⟩ := q9
        exact fin hm' (by omega) hw8 gh I9 w'
      | true =>
        simp only [if_true] at q9 ⊢
        have go10 := pi2.run _ s9 σ8 H9 _ I9 q9
        rw [hp4, hp8, ← hAo] at go10
        refine seg_bind_wrap (wpAny_mono go10 (fun xv s10 h10 => ?_) fun _ _ e => e.elim)
        refine seg_bind_wrap (wpAny_standAt ?_)
        refine seg_bind_wrap (wpAny_of_eq (hs2 xv) ?_)
        refine seg_bind_wrap (wpAny_holding (wpAny_mono h10 (fun itv s11 h11 => ?_) fun _ _ e => e.elim))
        obtain ⟨it2, fp2, tn2, J2, H11, rfl, I11, T2, st11, f11, W2, ⟨m2, hm2, w2⟩, turn2⟩ := h11
        refine seg_call fun p => ?_
        have out2 : ∀ b ∈ fp2, b ∉ Ss := fun b hb hS => by
          obtain ⟨o, e⟩ := hGS s₀ c gh b hS
          exact (f11 b hb).2.2.2.2.2 (b, o) (List.mem_append_right _ (List.mem_append_left _ (mem_pinsAt hS e))) rfl
        have ok2 : ∀ (H : Hp) (hp : Heap), (∀ b ∈ fp2, H b = none) → ∀ b ∈ fp2, FpOk Z (pinsAt Ss hp ++ pinsAt fp s7.heap) H b := fun H hp hn b hb => by
          obtain ⟨_, a2, a3, a4, a5, a6⟩ := f11 b hb
          refine ⟨hn b hb, a2, a3, a4, a5, fun p hq z => ?_⟩
          rcases List.mem_append.mp hq with q | q
          · exact a6 p (List.mem_append_left _ q) z
          · rcases List.mem_append.mp q with q | q
            · exact out2 b hb (by rw [← z]; exact (of_pinsAt q).1)
            · exact a6 p (List.mem_append_right _ (List.mem_append_right _ q)) z
        have I12 : Inv Z (pinsAt Ss s₀.heap ++ pinsAt fp s7.heap) (wipe σ8 vs2) H11 s11 := I11.weak (wipe_length _ _) fun j v e => (wipe_some e).1
        show Seg _ B _ _ n s₀ _ ((compStart (gExp2 elt tg iter tg2 iter2 ifs ifs2 scope pos) 1 (.ref it2) .none cenv).onRaise _) _ s11
        unfold compStart
        rw [Sem.onRaise_eq_wrap]
        show Seg _ B _ _ n s₀ _ ((ask >>= _).wrap _ _ _ _) _ s11
        refine seg_bind_wrap (wpAny_askSetting ?_)
        split
        · exact seg_again rfl (seg_in (Z := Z) (B := B) (Gh := Gh) (Ss := Ss) (elt := elt) (tg := tg) (iter := iter) (tg2 := tg2) (iter2 := iter2) (ifs := ifs) (ifs2 := ifs2) (scope := scope) (pos := pos) (it2 := it2) (cenv := cenv) (R := GEnd Z Gh Ss (wipe σ0 vs) Z0) (P := P) (σ0 := σ8) (vs := vs2) (ip1 := pinsAt fp s7.heap) (fp := fp2) (Z2 := fun c' m' H' => m' < m ∧ W c' (i + 1) m' H') ((over_loop rfl rfl).trans hAo) rfl rfl hp4 hp5 hp8 hco T2 ok2 (fun p hp hm => hSs _ hm (of_pinsAt hp).1) out2 pg2 pt2 pe turn2
          (fun n' s₀' s' c' m' H' hn' gh' J' z => seg_leaf (.ok .next) (fin z.1 hn' ((hvs σ8).trans hw8) gh' J' z.2)) m2 n 0 c s₀ s11 H11 (by omega) gh I12 st11 (fun b hb => (f11 b hb).1) w2)
        · refine seg_bind_wrap (wpAny_rule ?_)
          show Seg _ B _ _ n s₀ _ ((standAt iter2.pos >>= _).wrap _ _ _ _) _ s11
          exact seg_bind_wrap (wpAny_standAt (seg_bind_wrap (T2.self _ _ _ _ _ st11 (seg_again rfl (seg_in (Z := Z) (B := B) (Gh := Gh) (Ss := Ss) (elt := elt) (tg := tg) (iter := iter) (tg2 := tg2) (iter2 := iter2) (ifs := ifs) (ifs2 := ifs2) (scope := scope) (pos := pos) (it2 := it2) (cenv := cenv) (R := GEnd Z Gh Ss (wipe σ0 vs) Z0) (P := P) (σ0 := σ8) (vs := vs2) (ip1 := pinsAt fp s7.heap) (fp := fp2) (Z2 := fun c' m' H' => m' < m ∧ W c' (i + 1) m' H') ((over_loop rfl rfl).trans hAo) rfl rfl hp4 hp5 hp8 hco T2 ok2 (fun p hp hm => hSs _ hm (of_pinsAt hp).1) out2 pg2 pt2 pe turn2
          (fun n' s₀' s' c' m' H' hn' gh' J' z => seg_leaf (.ok .next) (fin z.1 hn' ((hvs σ8).trans hw8) gh' J' z.2)) m2 n 0 c s₀ s11 H11 (by omega) gh I12 st11 (fun b hb => (f11 b hb).1) w2)))))
end
end Hd

set_option maxHeartbeats 4000000
namespace Hd
open PySem PySem.Spec PyProof.Rows L2 GenW
section
variable {M : Model} {A : Around} {E : Value → Shared → Prop} {s : Shared} {elt tg iter tg2 iter2 : Expr} {ifs ifs2 : List Expr} {scope : Scope} {pos : Pos} {env : Env}
theorem eval_two (hco : scope.isCoroutine = false) : eval (gExp2 elt tg iter tg2 iter2 ifs ifs2 scope pos) env = (do
    let y ← eval iter env
    standAt iter.pos
    let y ← genFold iter env y
    let i1 ← holding [y] (pyIter y)
    enterFrame
    let kl ← closureFor scope env
    let kode ← genexprCode env pos (env.qual ++ "<genexpr>") scope
    let blt ← builtinsFor env.globals env.builtins
    let genv ← newFunctionEnv scope env.globals kl [(".0", i1)] (env.qual ++ "<genexpr>.") none kode none blt
    newGenerator (.compStart (gExp2 elt tg iter tg2 iter2 ifs ifs2 scope pos) 0 i1 .none genv) "<genexpr>" (env.qual ++ "<genexpr>")) := by
  rw [arm_eval_GeneratorExp]
  simp only [hco, Bool.false_eq_true, if_false]
  cases iter <;> rfl
theorem make_two {kl : List (Str × Addr)} {Q : Value → Shared → Prop} (hco : scope.isCoroutine = false) (hclos : closureFor scope env = pure kl) (hcell : ∀ y ∈ scope.names, y.2 ≠ .cell) (h0 : scope.names.lookup (".0" : Str) = some NameKind.local) (hkind : scope.kind = .function) (hroom : A.depth < recursionLimit)
    (h : wpAny M A (eval iter env) (fun xv s₁ => wpAny M A (pyIter xv) (fun i1 s₂ => s₂.heap.NoLimit ∧ wpAny M A (genexprCode env pos (env.qual ++ "<genexpr>") scope) (fun kode s₃ => wpAny M A (builtinsFor env.globals env.builtins) (fun blt s₄ =>
        ∀ h', h'.Ns s₄.heap.objs.size (fun y => if y = (".0" : Str) then some i1 else none) → Heap.SameBut s₄.heap.objs.size (s₄.heap.push { cls := .type "frame", data := .dict #[] }) h' →
          Q (.ref h'.objs.size) { s₄ with gens := s₄.gens.push (.fresh (.compStart (gExp2 elt tg iter tg2 iter2 ifs ifs2 scope pos) 0 i1 .none (genEnv scope kl s₄.heap.objs.size kode blt env))), toks := s₄.toks + 1 + 1 + 1, heap := h'.push { cls := .type "generator", data := .fields #[.int s₄.gens.size 0, .str "<genexpr>" (s₄.toks + 1), .str (env.qual ++ "<genexpr>") (s₄.toks + 1 + 1)] } }) E s₃) E s₂) E s₁) E s)
    (hs : ∀ x, genFold iter env x = pure x) : wpAny M A (eval (gExp2 elt tg iter tg2 iter2 ifs ifs2 scope pos) env) Q E s := by
  rw [eval_two hco, hclos]
  refine wpAny_bind (wpAny_mono h (fun xv s₁ g1 => wpAny_bind (wpAny_standAt (wpAny_bind (wpAny_of_eq (hs xv) ?_)))) fun _ _ e => e)
  refine wpAny_bind (wpAny_holding (wpAny_mono g1 (fun i1 s₂ g2 => wpAny_bind (wpAny_enterFrame g2.1 hroom (wpAny_bind (wpAny_pure ?_)))) fun _ _ e => e))
  refine wpAny_bind (wpAny_mono g2.2 (fun kode s₃ g3 => wpAny_bind (wpAny_mono g3 (fun blt s₄ g4 => ?_) fun _ _ e => e)) fun _ _ e => e)
  have one : ∀ y ∈ ([((".0" : Str), i1)] : List (Str × Value)), scope.names.lookup y.1 = some NameKind.local := fun y hy => by
    rw [List.mem_singleton.mp hy]
    exact h0
  refine wpAny_bind (wpAny_newFunctionEnv hcell one (fun h' hn sb => ?_) hkind)
  have e : (fun y : Str => ([((".0" : Str), i1)] : List (Str × Value)).reverse.lookup y) = fun y : Str => if y = (".0" : Str) then some i1 else none := by
    funext y
    by_cases hy : y = (".0" : Str)
    · rw [hy, if_pos rfl] <;> rfl
    · rw [if_neg hy]
      have ne : (y == (".0" : Str)) = false := by simpa using hy
      simp [List.lookup, ne]
  rw [e] at hn
  simp only [newGenerator, newFields]
  exact wpAny_bind (wpAny_newGen (wpAny_bind (wpAny_mkText (wpAny_bind (wpAny_mkText (wpAny_newObj_type (g4 h' hn sb) (by size_fits)))))))
end
end Hd

set_option maxHeartbeats 4000000
/-! all(.. for .. in .. for .. in ..) -/
namespace Hd
open PySem PySem.Spec PyProof.Rows L2 GenW
section
variable {X : Cx} {pins : List (Addr × Obj)} {σ : L2.St} {H : Hp} {s : Shared}
theorem seg_gs2 {B : Around} {R : GenEnd} {Y : Protocol} {n : Nat} {prog : Program} {w : World} {elt tg iter tg2 iter2 : Expr} {ifs ifs2 : List Expr} {scope : Scope} {pos : Pos} {it : Addr} {cenv : Env} {s₀ : Shared}
    (self : ∀ (A : Around) (Q : Value → Shared → Prop) (E : Value → Shared → Prop), Q (.ref it) s → wpAny (model prog w) A (pyIter (.ref it)) Q E s)
    (loop : Seg (model prog w) B R Y n s₀ (.compLoop (gExp2 elt tg iter tg2 iter2 ifs ifs2 scope pos) 0 (.ref it) .none cenv) ((model prog w).den (.compLoop (gExp2 elt tg iter tg2 iter2 ifs ifs2 scope pos) 0 (.ref it) .none cenv)) [] s) :
    Seg (model prog w) B R Y n s₀ (.compStart (gExp2 elt tg iter tg2 iter2 ifs ifs2 scope pos) 0 (.ref it) .none cenv) ((model prog w).den (.compStart (gExp2 elt tg iter tg2 iter2 ifs ifs2 scope pos) 0 (.ref it) .none cenv)) [] s := by
  show Seg _ B _ _ n s₀ _ ((compStart (gExp2 elt tg iter tg2 iter2 ifs ifs2 scope pos) 0 (.ref it) .none cenv).onRaise (leaving cenv)) [] s
  unfold compStart
  rw [Sem.onRaise_eq_wrap]
  show Seg _ B _ _ n s₀ _ ((ask >>= _).wrap _ _ _ _) [] s
  refine seg_bind_wrap (wpAny_askSetting ?_)
  split
  · exact seg_again rfl loop
  · refine seg_bind_wrap (wpAny_rule ?_)
    show Seg _ B _ _ n s₀ _ ((standAt iter.pos >>= _).wrap _ _ _ _) [] s
    exact seg_bind_wrap (wpAny_standAt (seg_bind_wrap (self _ _ _ (seg_again rfl loop))))
theorem gen_made2 {c P : Addr} {elt tg iter tg2 iter2 : Expr} {ifs ifs2 : List Expr} {pos : Pos} {scope : Scope} {own : List (Str × Nat)} {wi : TI} {k : Nat} {Q' : Value → Shared → Prop} {R : It → Hp → Prop} (hr : Room (k + 1) X.A) (TB : GxR.TabB X.base X.mg c P) (hcode : X.env.code = .ref c) (ok : GenOk X.N X.env.scope scope own) (hN : X.N.Nodup) (hi : PI X tg iter wi)
    (hs : ∀ v, genFold iter X.env v = pure v) (I : Inv X pins σ H s) (h : wi σ H fun J H1 => GxR.TabG H1 P ∧ ∀ H2, GxR.Tabbed P H1 H2 → R J H2)
    (hQ : ∀ J H2 a s5, R J H2 → GMake X pins σ scope own (gExp2 elt tg iter tg2 iter2 ifs ifs2 scope pos) tg J H2 a s5 → Q' (.ref a) s5) :
    wpAny (model X.prog X.w) X.A (eval (gExp2 elt tg iter tg2 iter2 ifs ifs2 scope pos) X.env) Q' X.xe s := by
  refine make_two ok.co (closure_ok (ok.free I.ok)) ok.nocell ok.dot ok.blk.kind (by have := hr.dp; omega) ?_ hs
  refine thn (hi.run pins s σ H _ I h) fun xv s1 hx => thn hx fun itv s2 h2 => ?_
  obtain ⟨it, fp, tn, J, H2, rfl, I2, T, st2, f2, ⟨ps, hP, ht⟩, q⟩ := h2
  refine ⟨I2.nolimit, ?_⟩
  have hPs : s2.heap.get? P = some { cls := .none, data := .fields ps } := I2.hok P _ hP
  have cd : PySem.W.CodeHd s2.heap c P := TB.code.keeps fun b u e => I2.bk b u e
  have nP : ∀ b ∈ fp, b ≠ P := fun b hb e => by
    have := (f2 b hb).1
    rw [e, hP] at this
    cases this
  -- behind the code's look: the state, its heap
  have go : ∀ (code : Value) (s3 : Shared) (H3 : Hp), Inv X pins σ H3 s3 → GxR.Tabbed P H2 H3 → (∀ b o, b ≠ P → s2.heap.get? b = some o → s3.heap.get? b = some o) →
      wpAny (model X.prog X.w) X.A (builtinsFor X.env.globals X.env.builtins) (fun bi s₄ =>
        ∀ h', h'.Ns s₄.heap.objs.size (fun y => if y = (".0" : Str) then some (.ref it) else none) → Heap.SameBut s₄.heap.objs.size (s₄.heap.push { cls := .type "frame", data := .dict #[] }) h' →
          Q' (.ref h'.objs.size) { s₄ with gens := s₄.gens.push (.fresh (.compStart (gExp2 elt tg iter tg2 iter2 ifs ifs2 scope pos) 0 (.ref it) .none (genEnv scope (cloFrom X.env.cells scope.names []) s₄.heap.objs.size code bi X.env))), toks := s₄.toks + 1 + 1 + 1, heap := h'.push { cls := .type "generator", data := .fields #[.int s₄.gens.size 0, .str "<genexpr>" (s₄.toks + 1), .str (X.env.qual ++ "<genexpr>") (s₄.toks + 1 + 1)] } }) X.xe s3 := by
    intro code s3 H3 I3 tb kp
    obtain ⟨bm, ob, b1, b2, _, _, b5, b6, b7, b8⟩ := TB.bm
    refine wpAny_builtinsFor (m := X.mg) (by rw [I3.ok.glob]; exact I3.mod.glob.keeps I3.bk) b1 b2 (I3.bk _ _ b5) b6 b7 b8 fun h' hn sb => ?_
    have sz : h'.objs.size = s3.heap.objs.size + 1 := by rw [sb.1, Heap.size_push]
    have kp' : ∀ b o, s3.heap.get? b = some o → h'.get? b = some o := fun b o e => sb.extBut b o (Nat.ne_of_lt (Heap.lt_size e)) (Heap.get?_push_of_some _ e)
    have f3 : ∀ b ∈ fp, FpOk X pins H3 b := fun b hb => ⟨by rw [tb.2 b (nP b hb)]; exact (f2 b hb).1, (f2 b hb).2⟩
    have old : ∀ b ∈ fp, ∃ o, s2.heap.get? b = some o ∧ s3.heap.get? b = some o := fun b hb => by
      obtain ⟨o, e, _⟩ := T.obj _ _ st2 b hb
      exact ⟨o, e, kp b o (nP b hb) e⟩
    have lt3 : ∀ b ∈ fp, b < s3.heap.objs.size := fun b hb => let ⟨o, _, e⟩ := old b hb; Heap.lt_size e
    generalize hgo : ({ cls := .type "generator", data := .fields #[.int s3.gens.size 0, .str "<genexpr>" (s3.toks + 1), .str (X.env.qual ++ "<genexpr>") (s3.toks + 1 + 1)] } : Obj) = go
    have hpg : (h'.push go).get? h'.objs.size = some go := Heap.get?_push_size _ (by rw [← hgo] <;> rfl)
    have isg : ∀ hh : Heap, hh.get? h'.objs.size = some go → hh.IsGen h'.objs.size s3.gens.size := fun hh e => ⟨go, _, _, e, by rw [← hgo], by rw [← hgo], by rw [← hgo]⟩
    have kp5 : ∀ b o, s3.heap.get? b = some o → (h'.push go).get? b = some o := fun b o e => Heap.get?_push_of_some _ (kp' b o e)
    have bare5 : AllBare (s3.gens.push (.fresh (.compStart (gExp2 elt tg iter tg2 iter2 ifs ifs2 scope pos) 0 (.ref it) .none (gev X scope s3.heap.objs.size code)))) := AllBare.push I3.bare rfl
    refine hQ J H3 _ _ (q H3 tb) ⟨it, fp, tn, s3, code, s3.gens.size, go, I3, T, ?_, f3, fun hm => ?_, isg, isg _ hpg, ?_, Array.getElem?_push_size .., fun b hb => (f3 b hb).1, fun A hA hh => ?_⟩
    · exact T.keep _ _ _ st2 fun b hb o e => kp5 b o (kp b o (nP b hb) e)
    · have := lt3 _ hm
      rw [sz] at this
      exact Nat.lt_irrefl _ (Nat.lt_of_succ_lt this)
    · exact I3.nolimit.keeps kp5
    · have st := gx_start (it := .ref it) (code := code) (A := A) (tk := s3.toks + 1 + 1 + 1) I3 ok hN (fun b hb => ⟨f3 b hb, lt3 b hb⟩) (hn.push go) kp5 bare5 hA hh
      refine gx_pin st hpg ?_ ?_ ?_ fun v z => ?_
      · exact I3.hok.fresh (by rw [sz]; exact Nat.le_succ _)
      · show h'.objs.size ≠ s3.heap.objs.size
        rw [sz]
        exact Nat.succ_ne_self _
      · intro hm
        have l := I3.lt
        rcases List.mem_cons.mp (I3.stkSub _ hm) with z | z
        · rw [← z, sz] at l
          exact Nat.lt_irrefl _ (Nat.lt_of_succ_lt l)
        · exact I3.nofs (by rw [sz]; exact Nat.le_succ _) z
      · rw [← hgo] at z
        cases z
  cases hf : codeAmong pos ps.toList with
  | some cv =>
    refine PySem.wpAny_genexprCode_hit hcode (cd.code hPs ht) hf ?_
    exact go cv s2 H2 I2 ⟨⟨ps, hP, ht⟩, fun b _ => rfl⟩ fun b o _ e => e
  | none =>
    refine PySem.wpAny_genexprCodeX hcode (cd.code hPs ht) (cd.tab hPs) hf fun c' h' tk hx hge hlt hco' _ htab' _ => ?_
    obtain ⟨o1, vs, f1, tf, fl, tgg, inF, tx, tt, op, _, _, _, _, _, _, _, _, _, htr, _⟩ := hco'
    have I3 := GxR.inv_tab (h' := h') (g' := s2.gens) (d' := s2.drawn) (t' := tk) I2 hP (fun b u hb e => hx b u hb e) htab'.2 I2.bare
    exact go (.ref c') _ _ I3 ⟨⟨_, upd_same, htr⟩, fun b hb => upd_ne hb⟩ fun b o hb e => hx b o hb e
def tAllG2 (P : Addr) (wi : TI) (g : TG) (tt : TT) (vs : List Nat) (wi2 : TI) (g2 : TG) (tt2 : TT) (te : TE) (vs2 : List Nat) : TE := fun σ H Q => wi σ H fun J H1 => GxR.TabG H1 P ∧ ∀ H2, GxR.Tabbed P H1 H2 → ∃ W : Unit → Nat → Nat → Hp → Prop, (∃ m, W () 0 m H2) ∧ GTurnO σ vs g tt wi2 vs2 g2 tt2 te J (PAll (Q (.bl false))) (fun _ => Q (.bl true)) W
/-- all(elt for tg in iter if ..), the element any expression -/
theorem pe_allG2 {c P : Addr} {elt tg iter tg2 iter2 : Expr} {ifs ifs2 : List Expr} {p pos gpos : Pos} {scope : Scope} {own : List (Str × Nat)} {vs2 : List Nat} {wi wi2 : TI} {g g2 : TG} {tt tt2 : TT} {te : TE} {k : Nat} (hr : Room (k + 1) X.A) (hg : Gl X "all") (hm : X.mg "all" = none) (TB : GxR.TabB X.base X.mg c P) (hcode : X.env.code = .ref c)
    (ok : GenOk X.N X.env.scope scope own) (hN : X.N.Nodup) (hi : PI X tg iter wi) (hpg : ∀ (A : Around) (s : Shared) (H : Hp) (code : Value) (fp : List Addr) (pn : List (Addr × Obj)), Room k A → PG (gx X A s H (gev X scope s.heap.objs.size code) fp pn) tg g)
    (hpt : ∀ (A : Around) (s : Shared) (H : Hp) (code : Value) (fp : List Addr) (pn : List (Addr × Obj)), Room k A → PTs (gx X A s H (gev X scope s.heap.objs.size code) fp pn) ifs tt) (hpe : ∀ (A : Around) (s : Shared) (H : Hp) (code : Value) (fp : List Addr) (pn : List (Addr × Obj)), Room k A → PE (gx X A s H (gev X scope s.heap.objs.size code) fp pn) elt te)
    (hpi2 : ∀ (A : Around) (s : Shared) (H : Hp) (code : Value) (fp : List Addr) (pn : List (Addr × Obj)), Room k A → PI (gx X A s H (gev X scope s.heap.objs.size code) fp pn) tg2 iter2 wi2) (hpg2 : ∀ (A : Around) (s : Shared) (H : Hp) (code : Value) (fp : List Addr) (pn : List (Addr × Obj)), Room k A → PG (gx X A s H (gev X scope s.heap.objs.size code) fp pn) tg2 g2) (hpt2 : ∀ (A : Around) (s : Shared) (H : Hp) (code : Value) (fp : List Addr) (pn : List (Addr × Obj)), Room k A → PTs (gx X A s H (gev X scope s.heap.objs.size code) fp pn) ifs2 tt2) (hvs : ∀ σ : L2.St, wipe (wipe σ vs2) (own.map (·.2)) = wipe σ (own.map (·.2)))
    (hs2 : ∀ (env : Env) v, foldedSetIterable iter2 env v = pure v := by intro _ _; rfl) (hs : ∀ v, genFold iter X.env v = pure v := by intro _; rfl) (hb : bootBuiltins "all" = some (.builtin "all") := by decide +kernel)
    (he : starEach [gExp2 elt tg iter tg2 iter2 ifs ifs2 scope gpos] X.env = (false, eval (gExp2 elt tg iter tg2 iter2 ifs ifs2 scope gpos) X.env) :: starEach [] X.env := by rfl) :
    PE X (.Call (.Name "all" p) [gExp2 elt tg iter tg2 iter2 ifs ifs2 scope gpos] [] pos) (tAllG2 P wi g tt (own.map (·.2)) wi2 g2 tt2 te vs2) := by
  refine ⟨fun pins s σ H Q I h => ?_⟩
  refine wpAny_Call_Name_kw (ld_blt I hg hm hb ?_)
  refine PyProof.Rows.callWith_builtin1 ?_ he (by rfl)
  rw [he]
  show wpAny _ _ (spliced ((false, eval (gExp2 elt tg iter tg2 iter2 ifs ifs2 scope gpos) X.env) :: backTo pos (starEach [] X.env))) _ _ s
  refine Calls.spliced_cons (gen_made2 hr TB hcode ok hN hi hs I h fun J H2 a s5 hR G => ?_)
  obtain ⟨W, ⟨m, w0⟩, turn⟩ := hR
  obtain ⟨it, fp, tn, s4, code, gi, go, I4, T, st, hf, haf, isg, ig5, nl5, gs5, nf, inv⟩ := G.go
  refine Calls.spliced_nil ?_
  refine call_function_tree F.kind_all F.plain_all F.entry_all (F.args_all1 _) ?_
  unfold Builtin.«all»
  refine wpAny_bind (m := oneArg "all" _) (wpAny_pure (wpAny_bind (wpAny_pyIter_gen ig5 (wpAny_pure ⟨plainId_quiet F.plain_all_loop _, ?_⟩))))
  have fr : (X.A.in1.in1.over (.compLoop (gExp2 elt tg iter tg2 iter2 ifs ifs2 scope gpos) 0 (.ref it) .none (gev X scope s4.heap.objs.size code)) []).frames = some (gev X scope s4.heap.objs.size code :: X.stack) := by
    have e : X.A.in1.in1.frames = some X.stack := I4.ok.frames
    unfold Around.over
    dsimp only
    rw [e] <;> rfl
  have rm := over_room (e := gExp2 elt tg iter tg2 iter2 ifs ifs2 scope gpos) (it := .ref it) (acc := .none) (cenv := gev X scope s4.heap.objs.size code) hr rfl rfl
  have J5 := inv _ fr rm.hd
  have J6 := z_gens J5 (allBare_setGen (g := gi) (x := .running) J5.bare rfl)
  refine all_loop (Z := gx X (X.A.in1.in1.over (.compLoop (gExp2 elt tg iter tg2 iter2 ifs ifs2 scope gpos) 0 (.ref it) .none (gev X scope s4.heap.objs.size code)) []) s4 H2 (gev X scope s4.heap.objs.size code) fp [(a, go)]) (σ0 := wipe σ (own.map (·.2))) (QF := Q (.bl false)) (QT := Q (.bl true)) (gi := gi) hr.hd (by have := hr.dp; omega) ⟨go, List.mem_singleton.mpr rfl, isg⟩
    (fun H' s' J q => ⟨.bl true, H', z_back I4 hf J, rfl, q⟩) (fun ip σ' H' s' J q => ⟨.bl false, H', z_back I4 hf J, rfl, q⟩) (m + 1) s5 ⟨ig5, nl5, _, gs5, rfl, ?_⟩
  refine seg_gs2 (fun A Q E hq => T.self A 0 _ Q E st hq) ?_
  exact seg_out (X := X) _ rfl ok.co (hs2 _) T (hpg _ _ _ _ _ _ rm) (hpt _ _ _ _ _ _ rm) (hpi2 _ _ _ _ _ _ rm) (hpg2 _ _ _ _ _ _ rm) (hpt2 _ _ _ _ _ _ rm) (hpe _ _ _ _ _ _ rm) turn (fun p hp => by rw [List.mem_singleton.mp hp]; exact haf) (fun b hb => by cases hb) (fun _ _ _ b hb => by cases hb) hvs m (m + 1) 0 () _ _ H2 (Nat.lt_succ_self _) trivial J6 st nf w0
end
end Hd

set_option maxHeartbeats 4000000
namespace Hd
open PySem PySem.Spec PyProof.Rows L2
theorem t_yes {σ : L2.St} {H : Hp} {A B : Hp → Prop} (h : A H) : tYes σ H (fun b H3 => if b = true then A H3 else B H3) := iteT (B := B H) h
/-- the turns over a tuple of tuples, each of them in a local -/
theorem gt_tup2 {C : Type} {K : PySem.W.Frag} {a : Addr} {xs : List V} {σ : L2.St} {vs vs2 : List Nat} {g g2 : TG} {tt2 : TT} {te : TE} {P : C → V → Hp → (C → Hp → Prop) → Prop} {Z0 : C → Hp → Prop} {k2 : Nat} (N : Nat) (Pv : C → Nat → Hp → Prop) (Qv : C → Nat → Nat → Hp → Prop) (hl : ∀ c i H, i ≤ xs.length → Pv c i H → SqT K H a xs)
    (hs : ∀ c i x H, xs[i]? = some x → Pv c i H → g x (wipe σ vs) H fun σ2 H2 => wipe σ2 vs = wipe σ vs ∧ ∃ a2 ys, σ2[k2]? = some (some (.ref a2)) ∧ SqT K H2 a2 ys ∧ ys.length ≤ N ∧ Qv c i 0 H2 ∧ (∀ c j H, Qv c i j H → SqT K H a2 ys) ∧ (∀ c H, Qv c i ys.length H → Pv c (i + 1) H) ∧
      ∀ c j y H, ys[j]? = some y → Qv c i j H → g2 y (wipe σ2 vs2) H fun σ3 H5 => wipe σ3 vs2 = wipe σ2 vs2 ∧ tt2 σ3 H5 fun b H6 => if b = true then te σ3 H6 fun z H7 => P c z H7 (fun c' H' => Qv c' i (j + 1) H') else Qv c i (j + 1) H6)
    (hg : ∀ x σ H (Q1 Q2 : L2.St → Hp → Prop), (∀ σ' H', Q1 σ' H' → Q2 σ' H') → g x σ H Q1 → g x σ H Q2) (hd : ∀ c H, Pv c xs.length H → Z0 c H) {c0 : C} {H0 : Hp} (h0 : Pv c0 0 H0) :
    ∃ W : C → Nat → Nat → Hp → Prop, (∃ m, W c0 0 m H0) ∧ GTurnO σ vs g tYes (iTup K (tVar k2)) vs2 g2 tt2 te (Itt K a) P Z0 W := by
  refine ⟨fun c i m H => m = (xs.length - i) * (N + 1) ∧ i ≤ xs.length ∧ Pv c i H, ⟨_, rfl, Nat.zero_le _, h0⟩, ?_⟩
  rintro c i m H ⟨em, hi, p⟩
  have q := hl c i H hi p
  by_cases lt : i < xs.length
  · obtain ⟨r, hr⟩ : ∃ r, xs.length - i = r + 1 := ⟨xs.length - i - 1, by omega⟩
    have hr2 : xs.length - (i + 1) = r := by omega
    have em' : m = r * (N + 1) + (N + 1) := by rw [em, hr, Nat.succ_mul]
    refine .inr ⟨⟨xs, xs[i], q, List.getElem?_eq_getElem lt⟩, ?_⟩
    rintro x H' ⟨rfl, at_⟩
    refine hg _ _ _ _ _ (fun σ2 H2 hh => ?_) (hs c i x _ (at_ xs q) p)
    obtain ⟨h1, a2, ys, e1, e2, e3, e4, e5, e6, e7⟩ := hh
    refine ⟨h1, t_yes ?_⟩
    refine ⟨.ref a2, e1, a2, rfl, ⟨ys, e2⟩, fun c j m' H => m' = r * (N + 1) + (ys.length - j) ∧ j ≤ ys.length ∧ Qv c i j H, ⟨_, by omega, rfl, Nat.zero_le _, e4⟩, ?_⟩
    rintro c' j m' H' ⟨f1, f2, f3⟩
    have q2 := e5 c' j H' f3
    by_cases lt2 : j < ys.length
    · refine .inr ⟨⟨ys, ys[j], q2, List.getElem?_eq_getElem lt2⟩, fun c'' H'' => Qv c'' i (j + 1) H'', fun c'' H'' z => ⟨m' - 1, by omega, by omega, lt2, z⟩, ?_⟩
      rintro y H'' ⟨rfl, at2⟩
      exact e7 c' j y _ (at2 ys q2) f3
    · have ej : j = ys.length := by omega
      subst ej
      exact .inl ⟨⟨ys, q2, Nat.le_refl _⟩, by omega, by rw [hr2]; omega, lt, e6 c' H' f3⟩
  · have e : i = xs.length := by omega
    subst e
    exact .inl ⟨⟨xs, q, Nat.le_refl _⟩, hd c H p⟩
end Hd

set_option maxHeartbeats 4000000
/-! a lambda handed to a def: only the maker's own table changes -/
namespace Hd
open PySem PySem.Spec PyProof.Rows L2 LamX Evl
/-- all stays but the table at P -/
def OffP (P : Addr) (H H' : Hp) : Prop := ∀ b o, b ≠ P → H b = some o → H' b = some o
theorem OffP.refl {P : Addr} {H : Hp} : OffP P H H := fun _ _ _ e => e
theorem OffP.trans {P : Addr} {H H1 H2 : Hp} (a : OffP P H H1) (b : OffP P H1 H2) : OffP P H H2 := fun c o n e => b c o n (a c o n e)
theorem OffP.ex {P : Addr} {H H1 : Hp} (e : Ex H H1) : OffP P H H1 := fun c o _ h => e c o h
section
variable {X : Cx} {pins : List (Addr × Obj)} {σ : L2.St} {H : Hp} {s : Shared}
abbrev lamQ (X : Cx) : Str := X.env.qual ++ "<lambda>"
abbrev lamO (X : Cx) (params : Arguments) (body : Expr) (scope : Scope) (pm : Value) (c' : Addr) (ctv : Value) : Obj :=
  PySem.W.kla_obj "<lambda>" (lamQ X) params body scope (cloFrom X.env.cells scope.names []) pm c' ctv
/-- what is known when the lambda f of code c' has been made -/
structure LamMade (X : Cx) (pins : List (Addr × Obj)) (σ : L2.St) (H : Hp) (P : Addr) (params : Arguments) (body : Expr) (scope : Scope) (f c' : Addr) (pm ctv : Value) (H1 : Hp) (s' : Shared) : Prop where
  inv : Inv X pins σ H1 s'
  off : OffP P H H1
  tab : TabS H1 P (lamQ X)
  at_ : s'.heap.get? f = some (lamO X params body scope pm c' ctv)
  free : H1 f = none
  nofr : f ∉ frs X.stack
  code : H1 c' = some (CodeO c' (lamQ X))
theorem lam_made3 {c P : Addr} {params : Arguments} {body : Expr} {scope : Scope} {pos : Pos} {E : Value → Shared → Prop} {Q : Value → Shared → Prop}
    (I : Inv X pins σ H s) (tbl : TabB X.base X.mg c P) (own : X.env.code = .ref c) (T : TabS H P (lamQ X)) (nodef : defaultsOf params X.env = ([], []))
    (clo : ∀ y ∈ scope.names, y.2 = .free → ∃ c, X.env.cells.lookup y.1 = some c)
    (k : ∀ f c' pm ctv H1 s', LamMade X pins σ H P params body scope f c' pm ctv H1 s' → Q (.ref f) s') :
    wpAny (model X.prog X.w) X.A (eval (.Lambda params body scope pos) X.env) Q E s := by
  obtain ⟨ps, eP, tri, among⟩ := T
  have realP : s.heap.get? P = some { cls := .none, data := .fields ps } := I.hok P _ eP
  have high : ∀ g, s.heap.objs.size ≤ g → g ∉ frs X.stack := fun g hg m => by
    rcases List.mem_cons.mp (I.stkSub _ m) with e | e
    · exact absurd (e ▸ I.lt) (Nat.not_lt.mpr hg)
    · exact I.nofs hg e
  refine PySem.W.kla_eval nodef ?_
  cases hit : codeAmong pos ps.toList with
  | some cv =>
    obtain ⟨c1, rfl, h1⟩ := among pos cv hit
    exact PySem.W.kla_makeFunctionHit (mg := X.mg) (c := c) (P := P) (ps := ps) (closure_ok clo) I.ok.glob (I.mod.glob.keeps I.bk) own (tbl.code.keeps I.bk) realP tri hit (tbl.bm.keeps I.bk)
      fun ctv h' tk grow big => k _ c1 _ ctv H _
        ⟨I.kept fun b o e => Heap.get?_push_of_some _ (grow b o e), OffP.refl, ⟨ps, eP, tri, among⟩, Heap.get?_push_size _ rfl, I.hok.fresh big, high _ big, h1⟩
  | none =>
    refine PySem.W.kla_makeFunction (mg := X.mg) (c := c) (P := P) (ps := ps) (closure_ok clo) I.ok.glob (I.mod.glob.keeps I.bk) own
      (tbl.code.keeps I.bk) realP tri hit tbl.gP (tbl.bm.keeps I.bk) fun c1 ctv h' tk grow ge lt rec tab1 => ?_
    obtain ⟨c2, oc, vs, t, e2, look, dat, nam⟩ := rec
    cases e2
    have big : s.heap.objs.size ≤ h'.objs.size := Nat.le_trans ge (Nat.le_of_lt lt)
    have none1 : H c1 = none := I.hok.fresh ge
    have pc : P ≠ c1 := ne_of_none eP none1
    generalize hmore : (#[rawInt pos.line, rawInt pos.col, Value.ref c1] : Array Value) = more at tab1
    have off : OffP P H (upd (upd H P (.tbl (ps ++ more))) c1 (CodeO c1 (lamQ X))) := fun b o n e => by
      rw [upd_ne (ne_of_none e none1), upd_ne n]
      exact e
    have lst : (ps ++ more).toList = ps.toList ++ [rawInt pos.line, rawInt pos.col, .ref c1] := by rw [← hmore] <;> simp
    refine k _ c1 _ ctv _ _ ⟨inv_table (t' := tk) (more := more) I eP (fun b o n e => Heap.get?_push_of_some _ (grow b o n e)) (Heap.get?_push_of_some _ tab1) ge
      ⟨oc, vs, t, Heap.get?_push_of_some _ look, dat, nam⟩, off, ⟨ps ++ more, ?_, ?_, fun p' cv hcv => ?_⟩, Heap.get?_push_size _ rfl, ?_, high _ big, upd_same⟩
    · rw [upd_ne pc, upd_same]
    · rw [lst]
      exact PySem.TriplesOk_snoc _ _ _ _ tri
    · rw [lst] at hcv
      rcases among_app _ tri hcv with z | rfl
      · obtain ⟨c0, e1, e2⟩ := among p' cv z
        have ncP : c0 ≠ P := fun e => by
          rw [e, eP] at e2
          exact codeO_ne _ (Option.some.inj e2).symm
        exact ⟨c0, e1, off _ _ ncP e2⟩
      · exact ⟨c1, rfl, upd_same⟩
    · rw [upd_ne (Nat.ne_of_gt lt), upd_ne (Nat.ne_of_gt (Nat.lt_of_lt_of_le (Heap.lt_size realP) big))]
      exact I.hok.fresh big
end
/-- x(lambda: body): the maker's table at P alone may change ahead of the call -/
def tLamP (P : Addr) (q : Str) (TT : (XK → Hp → VK → Prop) → Hp → VK → Prop) (t : XK → TE) : TE := fun σ H Q =>
  TabS H P q ∧ ∀ H1, OffP P H H1 → TabS H1 P q → TT (fun E H' Q' => t E σ H' Q') H1 Q
section
variable {X : Cx}
theorem pe_lamP {TT : (XK → Hp → VK → Prop) → Hp → VK → Prop} {x a : Str} {g c P : Addr} {k : Nat} {pg : Arguments} {bg : List Stmt} {sg : Scope} {dV kV doc pm cdv ct oc : Value} {an od : Option Addr}
    {osl : Array (Option Value)} {Ng : List Str} {params : Arguments} {body : Expr} {scope : Scope} {t : XK → TE} {p lpos pos : Pos}
    (hg : Gl X x) (hm : X.mg x = some (.ref g)) (hk : PySem.W.keepIn X.K (.ref g) = true)
    (lk : X.K.lookup g = some ⟨oc, od, .func (PySem.W.fnOf x x pg bg sg dV kV doc pm an cdv ct), osl⟩) (cdn : PySem.W.codeIn X.K cdv x = true)
    (bnd : L2.Binds X.K (PySem.W.fnOf x x pg bg sg dV kV doc pm an cdv ct) [a] []) (Sg : FnScope Ng [a] sg) (first : Ng[0]? = some a) (vis : Vis sg a)
    (gives : GivesTo X Ng x sg g cdv bg a (lamQ X) TT) (TB : TabB X.base X.mg c P) (own : X.env.code = .ref c)
    (hr : Room (k + 2) X.A) (L : LamS X.env.scope scope) (nodef : defaultsOf params X.env = ([], []))
    (nobind : ∀ (q : Str) (cl : List (Str × Addr)) (pm cv ctv : Value), bindArgs (PySem.W.kla_fn "<lambda>" q params body scope cl pm cv ctv) ⟨[], []⟩ = pure [])
    (inner : ∀ (A : Around) (outer : List Env) (s : Shared) (H : Hp) (E : XK) (f c' : Addr), Room k (A.deeper (lamEnv X scope s.heap.objs.size f c')) → PE (lamCx X A outer s H E scope f c') body (t E))
    (nb1 : (x == ("__debug__" : Str)) = false := by decide) (nb2 : (a == ("__debug__" : Str)) = false := by decide) (nb3 : (a == ("__classdict__" : Str)) = false := by decide) :
    PE X (.Call (.Name x p) [.Lambda params body scope lpos] [] pos) (tLamP P (lamQ X) TT t) := by
  constructor
  intro pins s σ H Q I h
  obtain ⟨T, h⟩ := h
  refine wpAny_Call_Name_kw (ld_glob I hg hm ?_ nb1)
  refine PySem.W.callWith_K (h₀ := X.base) I.ok.mod.kin hk ?_ (by rfl) (by rfl)
  change wpAny _ _ (spliced ((false, eval (.Lambda params body scope lpos) X.env) :: backTo pos (starEach [] X.env))) _ _ s
  refine Calls.spliced_cons (lam_made3 I TB own T nodef (L.has I.ok) fun f c1 pm1 ctv H1 s1 M => ?_)
  have I1 := M.inv
  refine Calls.spliced_nil ⟨I1.kIn, wpAny_call (codeAny_mono (R := CR C8.CX0 X.stack X.prog X.w H1 s1 Q C8.E0) ?_ fun r s2 hq => ?_)⟩
  · refine run_ofS (N := Ng) (ps := [a]) (us := [.ref f]) (vs := [.ref f]) lk cdn Sg hr I1.env0 (bnd s1 [.ref f] I1.kIn rfl) (.cons rfl .nil) rfl fun room => ?_
    obtain ⟨t1, a1, a2⟩ := gives f c1 s1 H1 Q (fun E H' Q' => t E σ H' Q')
      (fun W pn xe E p1 p2 tk hW => pe_act (i := 0) I1 L M.at_ M.free M.nofr (nobind _ _ _ _ _) tk hW room (fun A outer s H r2 => inner A outer s H E f c1 r2) first vis nb2 nb3)
      M.code (h H1 M.off M.tab)
    exact ⟨t1, a1.nox, a2⟩
  · match r, hq with
    | .ok (.ret u), hq => exact I1.after hq
end
end Hd

set_option maxHeartbeats 4000000
/-! a law's statements; a local that is one of some defs -/
namespace Hd
open PySem PySem.Spec PyProof.Rows L2 Evl
/-! ### one statement, told by what holds before and behind it -/
def Does (X : Cx) (st : Stmt) (Pre Post : L2.St → Hp → Prop) : Prop := ∃ t, PS X st t ∧ ∀ D σ H, Pre σ H → (∀ σ' H', Post σ' H' → D.nx σ' H') → t D σ H
theorem does_cons {X : Cx} {st : Stmt} {rest : List Stmt} {Pre Mid : L2.St → Hp → Prop} {F : Ends → Prop} (h1 : Does X st Pre Mid) (h2 : ∃ t, PSs X rest t ∧ ∀ D σ H, Mid σ H → F D → t D σ H) : ∃ t, PSs X (st :: rest) t ∧ ∀ D σ H, Pre σ H → F D → t D σ H := by
  obtain ⟨t1, p1, q1⟩ := h1
  obtain ⟨t2, p2, q2⟩ := h2
  exact ⟨_, pss_cut p1 p2, fun D σ H pre f => ⟨Mid, q1 _ σ H pre fun σ' H' m => m, fun σ' H' m => q2 D σ' H' m f⟩⟩
theorem Fn.r {P : Program} {w : World} {K : PySem.W.Frag} {mg : Str → Option Value} {base : Heap} {CX : CXT} {k : Nat} {x : Str} {ps : List Str} {sp : Sp} {f : Addr} {fd : FuncData} (F : Fn P w K mg base CX k x ps sp f fd) : FnR P w K mg base CX k f sp := by
  have h := FnOk.raw F.G F.b (dvs := []) .nil
  simpa only [List.append_nil] using h
/-! ### a local that is one of some defs -/
def tCallAny (i : Nat) (fs : List (Addr × Sp)) (E : XK) (t : TA) : TE := fun σ H Q => ∃ p ∈ fs, σ[i]? = some (some (.ref p.1)) ∧ t σ H fun vs H1 => p.2 vs H1 Q E
theorem pe_callAny {X : Cx} {CX : CXT} {k i : Nat} {fs : List (Addr × Sp)} {E : XK} {x : Str} {e : Expr} {es : List Expr} {t : TA} {p pos : Pos} (F : ∀ q ∈ fs, FnR X.prog X.w X.K X.mg X.base CX k q.1 q.2) (hr : Room k X.A) (hk : ∀ q ∈ fs, PySem.W.keepIn X.K (.ref q.1) = true)
    (hx : Passes CX X E) (ha : PA X (e :: es) t) (hN : X.N[i]? = some x := by rfl) (hv : Vis X.env.scope x := by first | exact Or.inl rfl | exact Or.inr (Or.inl rfl) | exact Or.inr (Or.inr rfl)) (hd : (x == ("__debug__" : Str)) = false := by decide) (hcd : (x == ("__classdict__" : Str)) = false := by decide)
    (he : starEach (e :: es) X.env = (false, eval e X.env) :: starEach es X.env := by rfl) (hpl : (backTo pos (starEach es X.env)).any (·.1) = false := by rfl) : PE X (.Call (.Name x p) (e :: es) [] pos) (tCallAny i fs E t) := by
  refine ⟨fun pins s σ H Q I h => ?_⟩
  obtain ⟨q, hq, hs, h⟩ := h
  refine wpAny_Call_Name_kw (thn ((pe_var (pos := p) (i := i) hN hv hd hcd).run pins s σ H (fun v H1 => v = .ref q.1 ∧ H1 = H) I ⟨.ref q.1, hs, rfl, rfl⟩) fun u s1 ⟨v, H1, I1, r1, ev, eH⟩ => ?_)
  subst ev
  rw [eH] at I1
  cases r1
  refine PySem.W.callWith_K (h₀ := X.base) I.ok.mod.kin (hk q hq) (thn (ha.run pos pins s1 σ H _ I1 h) fun us s2 ⟨vs, H2, I2, r, z⟩ => ⟨I2.kIn, ?_⟩) he hpl
  exact wpAny_call (run_fnR (F q hq) hr hx I2 r z)
end Hd

set_option maxHeartbeats 4000000
/-! a head's facts over chosen objects alone; its equation in three parts -/
namespace Hd
open PySem PySem.Spec PyProof.Rows L2 He
/-- what the objects at as name -/
def nextO (g : Addr → Option Obj) (as : List Addr) : List Addr := as.flatMap fun a => match g a with
  | some o => refsD o
  | none => []
/-- some names' objects (defs, tuples) and what they name; some classes to their methods' code -/
def asS (g : Addr → Option Obj) (ds cs : List Str) : List Addr :=
  let d := ds.map (ga (frG g [mainGlobals]))
  let c := cs.map (ga (frG g [mainGlobals]))
  mainGlobals :: (d ++ (nextO g d ++ (c ++ (nextO g c ++ (nextO g (nextO g c) ++ nextO g (nextO g (nextO g c)))))))
structure Ask where
  fa : List Fa
  fn : List DefD
  tf : List Defn
  ex : PySem.W.Frag → Bool
  ds : List Str
  cs : List Str
def Ask.K (q : Ask) (g : Addr → Option Obj) : PySem.W.Frag := frT g (asS g q.ds q.cs)
def Ask.obs (q : Ask) (g : Addr → Option Obj) : AlX := (obsT q.fa q.fn [] (q.K g), q.ex (q.K g) && tabsB g q.tf (q.K g))
theorem Ask.says {q : Ask} {w : World} {h : Heap} (e : q.obs h.get? = valX q.fn [] w) : SaysX q.fa q.fn [] q.tf q.ex w h (q.K h.get?) := by
  obtain ⟨e1, e2⟩ := Prod.mk.inj (show (obsT q.fa q.fn [] (q.K h.get?), q.ex (q.K h.get?) && tabsB h.get? q.tf (q.K h.get?)) = (valT q.fn [] w, true) from e)
  rw [Bool.and_eq_true] at e2
  have each : ∀ p ∈ q.tf, PySem.W.codeHdIn (q.K h.get?) (cT (q.K h.get?) p).1 (cT (q.K h.get?) p).2 = true ∧ ∃ o, h.get? (cT (q.K h.get?) p).2 = some o ∧ emptyTab o = true := by
    intro p m
    have z := List.all_eq_true.mp e2.2 p m
    rw [Bool.and_eq_true] at z
    refine ⟨z.1, ?_⟩
    have z2 := z.2
    split at z2
    · rename_i o ho
      exact ⟨o, ho, z2⟩
    · cases z2
  constructor
  · exact e1
  · exact e2.1
  · exact fun p m => (each p m).1
  · exact fun p m => let ⟨_, o, a, b⟩ := each p m; frT_none a b
  · exact fun p m => let ⟨_, o, a, b⟩ := each p m; by rw [a, emptyTab_eq b]
def Ask.hook (q : Ask) : PySem.W.Hook where
  α := AlX
  obs := fun s => q.obs s.heap.get?
  val := fun w => valX q.fn [] w
  says := fun w h => ∃ K : PySem.W.Frag, K.In h ∧ SaysX q.fa q.fn [] q.tf q.ex w h K
  of := fun _ _ e => ⟨_, frT_in, Ask.says e⟩
  keeps := fun _ _ _ z k => z.elim fun K ⟨a, c⟩ => ⟨K, PySem.W.Frag.In.keeps a k, { c with empty := fun p m => k _ _ (c.empty p m) }⟩
def Ask.ob (q : Ask) (s : PySem.W.SharedT) : AlX := q.obs (HandSHeadRun.getT s)
theorem Ask.ob_eq (q : Ask) (s : PySem.W.SharedT) : q.ob s = q.hook.obs s.abs := by
  have e : HandSHeadRun.getT s = s.abs.heap.get? := funext (HandSHeadRun.getT_eq s)
  show q.obs (HandSHeadRun.getT s) = q.obs s.abs.heap.get?
  rw [e]
/-- three looks at one run -/
theorem three {β γ1 γ2 γ3 : Type} {o : Option β} {f1 : β → γ1} {f2 : β → γ2} {f3 : β → γ3} {a1 : γ1} {a2 : γ2} {a3 : γ3} (h1 : o.map f1 = some a1) (h2 : o.map f2 = some a2) (h3 : o.map f3 = some a3) : o.map (fun x => (f1 x, f2 x, f3 x)) = some (a1, a2, a3) := by
  cases o with
  | none => cases h1
  | some x =>
    cases h1
    cases h2
    cases h3
    rfl
noncomputable abbrev headRun (r : PySem.W.OpenRow) (M : Nat) (w : World) : Option (Shared × PySem.W.SharedT) := HandSHeadRun.wholeF (fun p => HandSHeadRun.stepQ (HandSHeadRun.denQ HandSHeadRun.tabQ) p w) HandSHeadRun.fenceQ M r.prog
end Hd

set_option maxHeartbeats 4000000
namespace Hd
open PySem PySem.Spec PyProof.Rows L2 Evl
/-! ### own error classes with a field, by Bools -/
def ownExcB (K : PySem.W.Frag) (C : Addr) : Bool := match K.lookup C with
  | some o => (match o.cls, o.data with
    | .type t, .cls cd => decide (t = "type") && ((match cd.mro with | .ref z :: bm => decide (z = C) && PySem.HandSPX.refsVE bm | _ => false) && ((match o.slots.toList with | [_, _, _, _, some (.builtin z), _] => decide (z = "ValueError.__new__") | _ => false) && (cd.hasDict && !cd.hasDel)))
    | _, _ => false)
  | none => false
theorem ownExcB_ok {K : PySem.W.Frag} {C : Addr} (h : ownExcB K C = true) : ∃ nm q N bs bm sn sub ab col dd k0 k1 k2 k3 k5, K.lookup C = some (excClassObj nm q C N bs bm true sn sub ab col dd k0 k1 k2 k3 k5 "ValueError.__new__") ∧ PySem.HandSPX.refsVE bm = true := by
  unfold ownExcB at h
  cases e : K.lookup C with
  | none =>
    rw [e] at h
    cases h
  | some o =>
    rw [e] at h
    obtain ⟨oc, od, dt, osl⟩ := o
    cases oc with
    | type t =>
      cases dt with
      | cls cd =>
        simp only [Bool.and_eq_true, decide_eq_true_eq] at h
        obtain ⟨rfl, h1, h2, h3, h4⟩ := h
        obtain ⟨nm, bs, mro, N, qn, hd, sn, sub, ab, col, del⟩ := cd
        simp only at h1 h2 h3 h4
        subst h3
        have h4' : del = false := by simpa using h4
        subst h4'
        split at h1
        · rename_i z bm
          rw [Bool.and_eq_true] at h1
          obtain ⟨g1, g2⟩ := h1
          have g1' := of_decide_eq_true g1
          subst g1'
          split at h2
          · rename_i k0 k1 k2 k3 z5 k5 hs
            have g5 := of_decide_eq_true h2
            subst g5
            have hsl : osl = #[k0, k1, k2, k3, some (.builtin "ValueError.__new__"), k5] := by
              obtain ⟨l⟩ := osl
              exact congrArg Array.mk hs
            subst hsl
            exact ⟨nm, qn, N, bs, bm, sn, sub, ab, col, od, k0, k1, k2, k3, k5, rfl, g2⟩
          · cases h2
        · cases h1
      | _ => cases h
    | _ => cases dt <;> cases h
def oexB (K : PySem.W.Frag) (C : Addr) : Bool := ownExcB K C && (decide (PySem.W.findIn K (.ref C) "__setattr__" = some (some (.builtin "object.__setattr__"))) && (decide (PySem.W.subIn K (.ref C) (.type "BaseException") = some true) && (decide (PySem.W.typeIn K (.ref C) = some (.type "type")) && PySem.W.keepIn K (.ref C))))
theorem oexB_ok {K : PySem.W.Frag} {C : Addr} (h : oexB K C = true) : OexC K C := by
  unfold oexB at h
  simp only [Bool.and_eq_true, decide_eq_true_eq] at h
  obtain ⟨h1, h2, h3, h4, h5⟩ := h
  exact ⟨ownExcB_ok h1, h2, h3, h4, h5⟩
/-- a whole number at a name of the module -/
def gIntB (K : PySem.W.Frag) (x : Str) (i : Int) : Bool := match PySem.W.nsIn K mainGlobals x with
  | some (some (.int j _)) => decide (j = i)
  | _ => false
theorem gIntB_ok {K : PySem.W.Frag} {mg : Str → Option Value} {h : Heap} {x : Str} {i : Int} (X : K.In h) (G : h.Ns mainGlobals mg) (e : gIntB K x i = true) : ∃ tk, mg x = some (.int i tk) := by
  unfold gIntB at e
  split at e
  · rename_i j tk hj
    obtain rfl := of_decide_eq_true e
    exact ⟨tk, PySem.W.mg_of X G hj⟩
  · cases e
/-- a built-in of another module at a name -/
def gBltB (K : PySem.W.Frag) (x : Str) (b : String) : Bool := decide (PySem.W.nsIn K mainGlobals x = some (some (.builtin b)))
theorem gBltB_ok {K : PySem.W.Frag} {mg : Str → Option Value} {h : Heap} {x : Str} {b : String} (X : K.In h) (G : h.Ns mainGlobals mg) (e : gBltB K x b = true) : mg x = some (.builtin b) := PySem.W.mg_of X G (of_decide_eq_true e)
/-- an own error class with one field, and its __init__ -/
def ownB (K : PySem.W.Frag) (x : Str) : Bool := oexB K (He.ga K x) && (xfB K (He.ga K x) && decide (PySem.W.typeIn K (.ref (He.ma K (He.ga K x) "__init__")) = some (.type "function")))
theorem ownB_ok {K : PySem.W.Frag} {x : Str} (e : ownB K x = true) : OexC K (He.ga K x) ∧ XfC K (He.ga K x) ∧ PySem.W.typeIn K (.ref (He.ma K (He.ga K x) "__init__")) = some (.type "function") := by
  unfold ownB at e
  simp only [Bool.and_eq_true, decide_eq_true_eq] at e
  exact ⟨oexB_ok e.1, xfB_ok e.2.1, e.2.2⟩
end Hd

set_option maxHeartbeats 4000000
/-! values as data: what stands on the heap but for the list at r -/
namespace Hd
open PySem PySem.Spec PyProof.Rows L2 Evl
/-- all but the list at r, and tables, stays -/
def Kr (r : Addr) (H H' : Hp) : Prop := ∀ b o, b ≠ r → (∀ ps, o ≠ .tbl ps) → H b = some o → H' b = some o
theorem Kr.refl {r : Addr} {H : Hp} : Kr r H H := fun _ _ _ _ h => h
theorem Kr.trans {r : Addr} {H H1 H2 : Hp} (a : Kr r H H1) (b : Kr r H1 H2) : Kr r H H2 := fun c o n t h => b c o n t (a c o n t h)
theorem Kr.ex {r : Addr} {H H1 : Hp} (e : Ex H H1) : Kr r H H1 := fun c o _ _ h => e _ _ h
theorem Kr.row {r : Addr} {H : Hp} {o : HO} : Kr r H (upd H r o) := fun c u n _ h => by rw [upd_ne n]; exact h
/-- a fresh list that grows -/
theorem Kr.put {r D : Addr} {H H1 : Hp} {o : HO} (k : Kr r H H1) (n : H D = none) : Kr r H (upd H1 D o) := fun c u m t h => by
  rw [upd_ne (ne_of_none h n)]
  exact k c u m t h
mutual
inductive Dv (r : Addr) (H : Hp) : V → PyData → Prop
  | non : Dv r H .non .none
  | bl (b : Bool) : Dv r H (.bl b) (.bool b)
  | int (i : Int) : Dv r H (.int i) (.int i)
  | str (x : Str) : Dv r H (.str x) (.str x)
  | lst {a : Addr} {xs : List V} {ds : List PyData} : a ≠ r → H a = some (.lst xs) → DvAll r H xs ds → Dv r H (.ref a) (.list ds)
  | tup {a : Addr} {xs : List V} {ds : List PyData} : H a = some (.tup xs) → DvAll r H xs ds → Dv r H (.ref a) (.tuple ds)
inductive DvAll (r : Addr) (H : Hp) : List V → List PyData → Prop
  | nil : DvAll r H [] []
  | cons {v : V} {vs : List V} {d : PyData} {ds : List PyData} : Dv r H v d → DvAll r H vs ds → DvAll r H (v :: vs) (d :: ds)
end
section
variable {r : Addr} {H H' : Hp}
theorem Kr.tup (k : Kr r H H') {b : Addr} {xs : List V} {w : HO} (hr : H r = some w) (nt : ∀ xs, w ≠ .tup xs) (h : H b = some (.tup xs)) : H' b = some (.tup xs) :=
  k b _ (fun e => by rw [e, hr] at h; exact nt _ (Option.some.inj h)) (fun ps z => by cases z) h
mutual
theorem Dv.kr (k : Kr r H H') (hr : ∀ xs, H r ≠ some (.tup xs)) : ∀ (d : PyData) (v : V), Dv r H v d → Dv r H' v d
  | .none, _, h => by cases h; exact .non
  | .bool b, _, h => by cases h; exact .bl b
  | .int b, _, h => by cases h; exact .int b
  | .str b, _, h => by cases h; exact .str b
  | .list ds, _, h => by
    cases h with
    | lst n ha all => exact .lst n (k _ _ n (fun ps z => by cases z) ha) (Dv.krAll k hr ds _ all)
  | .tuple ds, _, h => by
    cases h with
    | tup ha all => exact .tup (k _ _ (fun e => hr _ (e ▸ ha)) (fun ps z => by cases z) ha) (Dv.krAll k hr ds _ all)
  | .dict _, _, h => by cases h
theorem Dv.krAll (k : Kr r H H') (hr : ∀ xs, H r ≠ some (.tup xs)) : ∀ (ds : List PyData) (vs : List V), DvAll r H vs ds → DvAll r H' vs ds
  | [], _, h => by cases h; exact .nil
  | d :: ds, _, h => by
    cases h with
    | cons h1 h2 => exact .cons (Dv.kr k hr d _ h1) (Dv.krAll k hr ds _ h2)
end
mutual
theorem Dv.dp (K : PySem.W.Frag) : ∀ (d : PyData) (v : V), Dv r H v d → Dp K H v d
  | .none, _, h => by cases h; exact .non
  | .bool b, _, h => by cases h; exact .bl b
  | .int b, _, h => by cases h; exact .int b
  | .str b, _, h => by cases h; exact .str b
  | .list ds, _, h => by
    cases h with
    | lst n ha all => exact .lst (SqL.of ha) (Dv.dpAll K ds _ all)
  | .tuple ds, _, h => by
    cases h with
    | tup ha all => exact .tup (SqT.of ha) (Dv.dpAll K ds _ all)
  | .dict _, _, h => by cases h
theorem Dv.dpAll (K : PySem.W.Frag) : ∀ (ds : List PyData) (vs : List V), DvAll r H vs ds → DpAll K H vs ds
  | [], _, h => by cases h; exact .nil
  | d :: ds, _, h => by
    cases h with
    | cons h1 h2 => exact .cons (Dv.dp K d _ h1) (Dv.dpAll K ds _ h2)
end
theorem DvAll.pair : ∀ {vs : List V} {ds : List PyData}, DvAll r H vs ds → Paired (Dv r H) vs ds
  | [], [], _ => .nil
  | _ :: _, _ :: _, h => by
    cases h with
    | cons h1 h2 => exact .cons h1 (DvAll.pair h2)
  | [], _ :: _, h => by cases h
  | _ :: _, [], h => by cases h
theorem DvAll.of : ∀ {vs : List V} {ds : List PyData}, Paired (Dv r H) vs ds → DvAll r H vs ds
  | _, _, .nil => .nil
  | _, _, .cons h t => .cons h (DvAll.of t)
theorem DvAll.len {vs : List V} {ds : List PyData} (h : DvAll r H vs ds) : vs.length = ds.length := Paired.length h.pair
theorem DvAll.app {vs us : List V} {ds es : List PyData} (h : DvAll r H vs ds) (g : DvAll r H us es) : DvAll r H (vs ++ us) (ds ++ es) := by
  induction vs generalizing ds with
  | nil =>
    cases h
    exact g
  | cons v vs ih =>
    cases h with
    | cons h1 h2 => exact .cons h1 (ih h2)
theorem DvAll.at_ {vs : List V} {ds : List PyData} {i : Nat} {v : V} (h : DvAll r H vs ds) (e : vs[i]? = some v) : ∃ d, ds[i]? = some d ∧ Dv r H v d := by
  induction vs generalizing ds i with
  | nil => simp at e
  | cons x vs ih =>
    cases h with
    | cons h1 h2 =>
      cases i with
      | zero =>
        obtain rfl := Option.some.inj (by simpa using e)
        exact ⟨_, rfl, h1⟩
      | succ i =>
        obtain ⟨d, a, b⟩ := ih h2 (i := i) (by simpa using e)
        exact ⟨d, by simpa using a, b⟩
theorem DvAll.rep {v : V} {d : PyData} (h : Dv r H v d) : ∀ n, DvAll r H (List.replicate n v) (List.replicate n d)
  | 0 => .nil
  | n + 1 => .cons h (DvAll.rep h n)
theorem DvAll.take {vs : List V} {ds : List PyData} (h : DvAll r H vs ds) : ∀ n, DvAll r H (vs.take n) (ds.take n) := by
  induction vs generalizing ds with
  | nil =>
    cases h
    intro n
    simpa using DvAll.nil
  | cons v vs ih =>
    cases h with
    | cons h1 h2 =>
      intro n
      cases n with
      | zero => exact .nil
      | succ n => exact .cons h1 (ih h2 n)
theorem DvAll.drop {vs : List V} {ds : List PyData} (h : DvAll r H vs ds) : ∀ n, DvAll r H (vs.drop n) (ds.drop n) := by
  induction vs generalizing ds with
  | nil =>
    cases h
    intro n
    simpa using DvAll.nil
  | cons v vs ih =>
    cases h with
    | cons h1 h2 =>
      intro n
      cases n with
      | zero => exact .cons h1 h2
      | succ n => exact ih h2 n
end
/-! ### data without lists -/
/-- tuples stay -/
def Kt (H H' : Hp) : Prop := ∀ b xs, H b = some (.tup xs) → H' b = some (.tup xs)
theorem Kt.refl {H : Hp} : Kt H H := fun _ _ h => h
theorem Kt.trans {H H1 H2 : Hp} (a : Kt H H1) (b : Kt H1 H2) : Kt H H2 := fun c xs h => b c xs (a c xs h)
theorem Kt.ex {H H1 : Hp} (e : Ex H H1) : Kt H H1 := fun _ _ h => e _ _ h
theorem Kt.put {H : Hp} {D : Addr} {xs : List V} {o : HO} (h : H D = some (.lst xs)) : Kt H (upd H D o) := fun c zs g => by
  rw [upd_ne (fun e => by rw [e, h] at g; cases g)]
  exact g
mutual
inductive Tv (H : Hp) : V → PyData → Prop
  | non : Tv H .non .none
  | bl (b : Bool) : Tv H (.bl b) (.bool b)
  | int (i : Int) : Tv H (.int i) (.int i)
  | str (x : Str) : Tv H (.str x) (.str x)
  | tup {a : Addr} {xs : List V} {ds : List PyData} : H a = some (.tup xs) → TvAll H xs ds → Tv H (.ref a) (.tuple ds)
inductive TvAll (H : Hp) : List V → List PyData → Prop
  | nil : TvAll H [] []
  | cons {v : V} {vs : List V} {d : PyData} {ds : List PyData} : Tv H v d → TvAll H vs ds → TvAll H (v :: vs) (d :: ds)
end
section
variable {H H' : Hp}
mutual
theorem Tv.kt (k : Kt H H') : ∀ (d : PyData) (v : V), Tv H v d → Tv H' v d
  | .none, _, h => by cases h; exact .non
  | .bool b, _, h => by cases h; exact .bl b
  | .int b, _, h => by cases h; exact .int b
  | .str b, _, h => by cases h; exact .str b
  | .list ds, _, h => by cases h
  | .tuple ds, _, h => by
    cases h with
    | tup ha all => exact .tup (k _ _ ha) (Tv.ktAll k ds _ all)
  | .dict _, _, h => by cases h
theorem Tv.ktAll (k : Kt H H') : ∀ (ds : List PyData) (vs : List V), TvAll H vs ds → TvAll H' vs ds
  | [], _, h => by cases h; exact .nil
  | d :: ds, _, h => by
    cases h with
    | cons h1 h2 => exact .cons (Tv.kt k d _ h1) (Tv.ktAll k ds _ h2)
end
mutual
theorem Tv.dv (r : Addr) : ∀ (d : PyData) (v : V), Tv H v d → Dv r H v d
  | .none, _, h => by cases h; exact .non
  | .bool b, _, h => by cases h; exact .bl b
  | .int b, _, h => by cases h; exact .int b
  | .str b, _, h => by cases h; exact .str b
  | .list ds, _, h => by cases h
  | .tuple ds, _, h => by
    cases h with
    | tup ha all => exact .tup ha (Tv.dvAll r ds _ all)
  | .dict _, _, h => by cases h
theorem Tv.dvAll (r : Addr) : ∀ (ds : List PyData) (vs : List V), TvAll H vs ds → DvAll r H vs ds
  | [], _, h => by cases h; exact .nil
  | d :: ds, _, h => by
    cases h with
    | cons h1 h2 => exact .cons (Tv.dv r d _ h1) (Tv.dvAll r ds _ h2)
end
theorem Tv.mv {v : V} {d : PyData} (h : Tv H v d) (k : Kt H H') : Tv H' v d := Tv.kt k d v h
theorem TvAll.mv {vs : List V} {ds : List PyData} (h : TvAll H vs ds) (k : Kt H H') : TvAll H' vs ds := Tv.ktAll k ds vs h
theorem TvAll.app {vs us : List V} {ds es : List PyData} (h : TvAll H vs ds) (g : TvAll H us es) : TvAll H (vs ++ us) (ds ++ es) := by
  induction vs generalizing ds with
  | nil =>
    cases h
    exact g
  | cons v vs ih =>
    cases h with
    | cons h1 h2 => exact .cons h1 (ih h2)
theorem TvAll.len {vs : List V} {ds : List PyData} (h : TvAll H vs ds) : vs.length = ds.length := by
  induction vs generalizing ds with
  | nil => cases h <;> rfl
  | cons v vs ih =>
    cases h with
    | cons h1 h2 => simp [ih h2]
theorem TvAll.at_ {vs : List V} {ds : List PyData} {i : Nat} {v : V} (h : TvAll H vs ds) (e : vs[i]? = some v) : ∃ d, ds[i]? = some d ∧ Tv H v d := by
  induction vs generalizing ds i with
  | nil => simp at e
  | cons x vs ih =>
    cases h with
    | cons h1 h2 =>
      cases i with
      | zero =>
        obtain rfl := Option.some.inj (by simpa using e)
        exact ⟨_, rfl, h1⟩
      | succ i =>
        obtain ⟨d, a, b⟩ := ih h2 (i := i) (by simpa using e)
        exact ⟨d, by simpa using a, b⟩
end
/-! ### lives as data -/
abbrev DeedT := Nat × Nat × Nat
abbrev MomT := List DeedT
abbrev StoryT := List MomT
abbrev LifeT := List (Nat × StoryT)
def intP (n : Nat) : PyData := .int (n : Int)
def deedP (x : DeedT) : PyData := .tuple [intP x.1, intP x.2.1, intP x.2.2]
def momP (m : MomT) : PyData := .tuple (m.map deedP)
def storyP (s : StoryT) : PyData := .tuple (s.map momP)
def sessP (s : Nat × StoryT) : PyData := .tuple [intP s.1, storyP s.2]
def lifeP (L : LifeT) : PyData := .tuple (L.map sessP)
def OkDeed (u p : Nat) (x : DeedT) : Prop := x.1 ≤ u ∧ x.2.1 < p ∧ x.2.2 < 10
def OkMom (u p : Nat) (m : MomT) : Prop := m.length ≤ 2 ∧ ∀ x ∈ m, OkDeed u p x
def OkSess (d p : Nat) (s : Nat × StoryT) : Prop := s.1 < d ∧ ∀ m ∈ s.2, OkMom s.1 p m
def lenT (L : LifeT) : Nat := (L.map fun s => s.2.length).sum
structure OkLife (d p most : Nat) (L : LifeT) : Prop where
  one : 1 ≤ L.length
  three : L.length ≤ 3
  sess : ∀ s ∈ L, OkSess d p s
  len : lenT L ≤ most
end Hd

set_option maxHeartbeats 4000000
namespace K01
open PySem PySem.Spec PyProof.Rows L2 Hd
/-! ### the text -/
def topS (i : Nat) : Stmt := PySem.Challenge.pw_hushdrawers_k01_whole_lives.main.body.getD i (.Pass ⟨0, 0, 0, 0⟩)
abbrev c_DrawerError : Stmt := topS 2
abbrev c_BadHouse : Stmt := topS 3
abbrev s_BadHouse___init__ : Stmt := inClass (topS 3) 0
abbrev n_BadHouse___init__ : List Str := ["self", "word"]
theorem sc_BadHouse___init__ : FnScope n_BadHouse___init__ ["self", "word"] (defScope s_BadHouse___init__) := ⟨rfl, rfl, rfl, by decide +kernel, rfl, by decide +kernel, by decide +kernel⟩
abbrev c_BadStory : Stmt := topS 4
abbrev s_BadStory___init__ : Stmt := inClass (topS 4) 0
abbrev n_BadStory___init__ : List Str := ["self", "index"]
theorem sc_BadStory___init__ : FnScope n_BadStory___init__ ["self", "index"] (defScope s_BadStory___init__) := ⟨rfl, rfl, rfl, by decide +kernel, rfl, by decide +kernel, by decide +kernel⟩
abbrev c_BadLife : Stmt := topS 5
abbrev s_BadLife___init__ : Stmt := inClass (topS 5) 0
abbrev n_BadLife___init__ : List Str := ["self", "index"]
theorem sc_BadLife___init__ : FnScope n_BadLife___init__ ["self", "index"] (defScope s_BadLife___init__) := ⟨rfl, rfl, rfl, by decide +kernel, rfl, by decide +kernel, by decide +kernel⟩
abbrev c_BadCoins : Stmt := topS 6
abbrev s_BadCoins___init__ : Stmt := inClass (topS 6) 0
abbrev n_BadCoins___init__ : List Str := ["self", "index"]
theorem sc_BadCoins___init__ : FnScope n_BadCoins___init__ ["self", "index"] (defScope s_BadCoins___init__) := ⟨rfl, rfl, rfl, by decide +kernel, rfl, by decide +kernel, by decide +kernel⟩
abbrev c_BadDrawer : Stmt := topS 7
abbrev c_BadNumber : Stmt := topS 8
abbrev c_TooMany : Stmt := topS 9
abbrev s_TooMany___init__ : Stmt := inClass (topS 9) 0
abbrev n_TooMany___init__ : List Str := ["self", "most"]
theorem sc_TooMany___init__ : FnScope n_TooMany___init__ ["self", "most"] (defScope s_TooMany___init__) := ⟨rfl, rfl, rfl, by decide +kernel, rfl, by decide +kernel, by decide +kernel⟩
abbrev s_is_number : Stmt := topS 13
abbrev n_is_number : List Str := ["value", "least", "most"]
theorem sc_is_number : FnScope n_is_number ["value", "least", "most"] (defScope s_is_number) := ⟨rfl, rfl, rfl, by decide +kernel, rfl, by decide +kernel, by decide +kernel⟩
abbrev s_wrong_word : Stmt := topS 14
abbrev n_wrong_word : List Str := ["value", "cells", "sealed", "drawers", "pages", "copies"]
theorem sc_wrong_word : FnScope n_wrong_word ["value"] (defScope s_wrong_word) := ⟨rfl, rfl, rfl, by decide +kernel, rfl, by decide +kernel, by decide +kernel⟩
abbrev s_check_house : Stmt := topS 15
abbrev n_check_house : List Str := ["house", "word"]
theorem sc_check_house : FnScope n_check_house ["house"] (defScope s_check_house) := ⟨rfl, rfl, rfl, by decide +kernel, rfl, by decide +kernel, by decide +kernel⟩
abbrev s_is_drawer : Stmt := topS 16
abbrev n_is_drawer : List Str := ["house", "value"]
theorem sc_is_drawer : FnScope n_is_drawer ["house", "value"] (defScope s_is_drawer) := ⟨rfl, rfl, rfl, by decide +kernel, rfl, by decide +kernel, by decide +kernel⟩
abbrev s_check_drawer : Stmt := topS 17
abbrev n_check_drawer : List Str := ["house", "drawer"]
theorem sc_check_drawer : FnScope n_check_drawer ["house", "drawer"] (defScope s_check_drawer) := ⟨rfl, rfl, rfl, by decide +kernel, rfl, by decide +kernel, by decide +kernel⟩
abbrev s_is_page : Stmt := topS 18
abbrev n_is_page : List Str := ["house", "value"]
theorem sc_is_page : FnScope n_is_page ["house", "value"] (defScope s_is_page) := ⟨rfl, rfl, rfl, by decide +kernel, rfl, by decide +kernel, by decide +kernel⟩
abbrev s_coin_count : Stmt := topS 19
abbrev n_coin_count : List Str := ["house"]
theorem sc_coin_count : FnScope n_coin_count ["house"] (defScope s_coin_count) := ⟨rfl, rfl, rfl, by decide +kernel, rfl, by decide +kernel, by decide +kernel⟩
abbrev s_is_coin : Stmt := topS 20
abbrev n_is_coin : List Str := ["house", "value"]
theorem sc_is_coin : FnScope n_is_coin ["house", "value"] (defScope s_is_coin) := ⟨rfl, rfl, rfl, by decide +kernel, rfl, by decide +kernel, by decide +kernel⟩
abbrev s_drawn : Stmt := topS 21
abbrev n_drawn : List Str := ["house", "coin", "cells", "sealed", "chosen", "ahead", "cell", "many"]
theorem sc_drawn : FnScope n_drawn ["house", "coin"] (defScope s_drawn) := ⟨rfl, rfl, rfl, by decide +kernel, rfl, by decide +kernel, by decide +kernel⟩
abbrev s_is_deed : Stmt := topS 26
abbrev n_is_deed : List Str := ["house", "value", "drawer", "page", "content"]
theorem sc_is_deed : FnScope n_is_deed ["house", "value"] (defScope s_is_deed) := ⟨rfl, rfl, rfl, by decide +kernel, rfl, by decide +kernel, by decide +kernel⟩
abbrev s_is_moment : Stmt := topS 27
abbrev n_is_moment : List Str := ["house", "value", "deed"]
theorem sc_is_moment : FnScope n_is_moment ["house", "value"] (defScope s_is_moment) := ⟨rfl, rfl, rfl, by decide +kernel, rfl, by decide +kernel, by decide +kernel⟩
abbrev s_check_story : Stmt := topS 28
abbrev n_check_story : List Str := ["house", "story", "at", "moment"]
theorem sc_check_story : FnScope n_check_story ["house", "story"] (defScope s_check_story) := ⟨rfl, rfl, rfl, by decide +kernel, rfl, by decide +kernel, by decide +kernel⟩
abbrev s_is_story : Stmt := topS 29
abbrev n_is_story : List Str := ["house", "value"]
theorem sc_is_story : FnScope n_is_story ["house", "value"] (defScope s_is_story) := ⟨rfl, rfl, rfl, by decide +kernel, rfl, by decide +kernel, by decide +kernel⟩
abbrev s_is_session : Stmt := topS 30
abbrev n_is_session : List Str := ["house", "value", "deepest", "story", "moment", "deed"]
theorem sc_is_session : FnScope n_is_session ["house", "value"] (defScope s_is_session) := ⟨rfl, rfl, rfl, by decide +kernel, rfl, by decide +kernel, by decide +kernel⟩
abbrev s_check_life : Stmt := topS 31
abbrev n_check_life : List Str := ["house", "life", "moments", "at", "session"]
theorem sc_check_life : FnScope n_check_life ["house", "life"] (defScope s_check_life) := ⟨rfl, rfl, rfl, by decide +kernel, rfl, by decide +kernel, by decide +kernel⟩
abbrev s_is_life : Stmt := topS 32
abbrev n_is_life : List Str := ["house", "value"]
theorem sc_is_life : FnScope n_is_life ["house", "value"] (defScope s_is_life) := ⟨rfl, rfl, rfl, by decide +kernel, rfl, by decide +kernel, by decide +kernel⟩
abbrev s_moment_count : Stmt := topS 33
abbrev n_moment_count : List Str := ["life", "session"]
theorem sc_moment_count : FnScope n_moment_count ["life"] (defScope s_moment_count) := ⟨rfl, rfl, rfl, by decide +kernel, rfl, by decide +kernel, by decide +kernel⟩
abbrev s_check_coins : Stmt := topS 34
abbrev n_check_coins : List Str := ["house", "life", "coins", "at", "coin"]
theorem sc_check_coins : FnScope n_check_coins ["house", "life", "coins"] (defScope s_check_coins) := ⟨rfl, rfl, rfl, by decide +kernel, rfl, by decide +kernel, by decide +kernel⟩
abbrev s_upper_moment : Stmt := topS 35
abbrev n_upper_moment : List Str := ["moment", "drawer", "deed"]
theorem sc_upper_moment : FnScope n_upper_moment ["moment", "drawer"] (defScope s_upper_moment) := ⟨rfl, rfl, rfl, by decide +kernel, rfl, by decide +kernel, by decide +kernel⟩
abbrev s_above : Stmt := topS 36
abbrev n_above : List Str := ["life", "drawer", "sessions", "deepest", "story", "moments", "moment"]
theorem sc_above : FnScope n_above ["life", "drawer"] (defScope s_above) := ⟨rfl, rfl, rfl, by decide +kernel, rfl, by decide +kernel, by decide +kernel⟩
abbrev s_upper : Stmt := topS 37
abbrev n_upper : List Str := ["house", "life", "drawer"]
theorem sc_upper : FnScope n_upper ["house", "life", "drawer"] (defScope s_upper) := ⟨rfl, rfl, rfl, by decide +kernel, rfl, by decide +kernel, by decide +kernel⟩
abbrev s_alike_above : Stmt := topS 38
abbrev n_alike_above : List Str := ["house", "one", "other", "drawer"]
theorem sc_alike_above : FnScope n_alike_above ["house", "one", "other", "drawer"] (defScope s_alike_above) := ⟨rfl, rfl, rfl, by decide +kernel, rfl, by decide +kernel, by decide +kernel⟩
abbrev s_power : Stmt := topS 40
abbrev n_power : List Str := ["base", "many", "result", "_"]
theorem sc_power : FnScope n_power ["base", "many"] (defScope s_power) := ⟨rfl, rfl, rfl, by decide +kernel, rfl, by decide +kernel, by decide +kernel⟩
abbrev s_rows_of : Stmt := topS 41
abbrev n_rows_of : List Str := ["values", "many", "rows", "_", "row", "value"]
theorem sc_rows_of : FnScope n_rows_of ["values", "many"] (defScope s_rows_of) := ⟨rfl, rfl, rfl, by decide +kernel, rfl, by decide +kernel, by decide +kernel⟩
abbrev s_coin_rows : Stmt := topS 42
abbrev n_coin_rows : List Str := ["house", "many"]
theorem sc_coin_rows : FnScope n_coin_rows ["house", "many"] (defScope s_coin_rows) := ⟨rfl, rfl, rfl, by decide +kernel, rfl, by decide +kernel, by decide +kernel⟩
abbrev s_check_way : Stmt := topS 45
abbrev n_check_way : List Str := ["way"]
theorem sc_check_way : FnScope n_check_way ["way"] (defScope s_check_way) := ⟨rfl, rfl, rfl, by decide +kernel, rfl, by decide +kernel, by decide +kernel⟩
abbrev c_Store : Stmt := topS 46
abbrev s_Store___init__ : Stmt := inClass (topS 46) 0
abbrev n_Store___init__ : List Str := ["self", "house", "way", "cells", "_", "pages", "copies"]
theorem sc_Store___init__ : FnScope n_Store___init__ ["self", "house", "way"] (defScope s_Store___init__) := ⟨rfl, rfl, rfl, by decide +kernel, rfl, by decide +kernel, by decide +kernel⟩
abbrev s_Store_begin : Stmt := inClass (topS 46) 1
abbrev n_Store_begin : List Str := ["self", "deepest", "held", "drawer"]
theorem sc_Store_begin : FnScope n_Store_begin ["self", "deepest"] (defScope s_Store_begin) := ⟨rfl, rfl, rfl, by decide +kernel, rfl, by decide +kernel, by decide +kernel⟩
abbrev s_Store_learn : Stmt := inClass (topS 46) 2
abbrev n_Store_learn : List Str := ["self", "held", "drawer", "page", "version", "content"]
theorem sc_Store_learn : FnScope n_Store_learn ["self", "held"] (defScope s_Store_learn) := ⟨rfl, rfl, rfl, by decide +kernel, rfl, by decide +kernel, by decide +kernel⟩
abbrev s_Store_missing : Stmt := inClass (topS 46) 3
abbrev n_Store_missing : List Str := ["self", "drawer", "live", "row", "page", "cell", "held"]
theorem sc_Store_missing : FnScope n_Store_missing ["self", "drawer"] (defScope s_Store_missing) := ⟨rfl, rfl, rfl, by decide +kernel, rfl, by decide +kernel, by decide +kernel⟩
abbrev s_Store_is_live : Stmt := inClass (topS 46) 4
abbrev n_Store_is_live : List Str := ["self", "cell", "drawer", "page", "version", "content"]
theorem sc_Store_is_live : FnScope n_Store_is_live ["self", "cell"] (defScope s_Store_is_live) := ⟨rfl, rfl, rfl, by decide +kernel, rfl, by decide +kernel, by decide +kernel⟩
abbrev s_Store_put : Stmt := inClass (topS 46) 5
abbrev n_Store_put : List Str := ["self", "drawer", "page", "content", "version", "_", "row"]
theorem sc_Store_put : FnScope n_Store_put ["self", "drawer", "page", "content"] (defScope s_Store_put) := ⟨rfl, rfl, rfl, by decide +kernel, rfl, by decide +kernel, by decide +kernel⟩
abbrev s_Store_seal : Stmt := inClass (topS 46) 6
abbrev n_Store_seal : List Str := ["self", "drawn_cells", "fresh", "live", "taken", "drawer", "cell"]
theorem sc_Store_seal : FnScope n_Store_seal ["self", "drawn_cells"] (defScope s_Store_seal) := ⟨rfl, rfl, rfl, by decide +kernel, rfl, by decide +kernel, by decide +kernel⟩
abbrev s_Store_sealed_of : Stmt := inClass (topS 46) 7
abbrev n_Store_sealed_of : List Str := ["self", "drawn_cells", "many", "row", "cell"]
theorem sc_Store_sealed_of : FnScope n_Store_sealed_of ["self", "drawn_cells"] (defScope s_Store_sealed_of) := ⟨rfl, rfl, rfl, by decide +kernel, rfl, by decide +kernel, by decide +kernel⟩
abbrev s_Store_sequence : Stmt := inClass (topS 46) 8
abbrev n_Store_sequence : List Str := ["self", "drawers"]
theorem sc_Store_sequence : FnScope n_Store_sequence ["self"] (defScope s_Store_sequence) := ⟨rfl, rfl, rfl, by decide +kernel, rfl, by decide +kernel, by decide +kernel⟩
abbrev s_Store_take_again : Stmt := inClass (topS 46) 9
abbrev n_Store_take_again : List Str := ["self", "drawer", "live", "taken", "cell", "held"]
theorem sc_Store_take_again : FnScope n_Store_take_again ["self", "drawer", "live", "taken"] (defScope s_Store_take_again) := ⟨rfl, rfl, rfl, by decide +kernel, rfl, by decide +kernel, by decide +kernel⟩
abbrev s_Store_take_bare : Stmt := inClass (topS 46) 10
abbrev n_Store_take_bare : List Str := ["self", "drawer", "fresh", "live", "taken", "row", "cell", "is_shut", "page", "version", "content"]
theorem sc_Store_take_bare : FnScope n_Store_take_bare ["self", "drawer", "fresh", "live", "taken"] (defScope s_Store_take_bare) := ⟨rfl, rfl, rfl, by decide +kernel, rfl, by decide +kernel, by decide +kernel⟩
abbrev s_check_run : Stmt := topS 48
abbrev n_check_run : List Str := ["house", "way", "life", "coins"]
theorem sc_check_run : FnScope n_check_run ["house", "way", "life", "coins"] (defScope s_check_run) := ⟨rfl, rfl, rfl, by decide +kernel, rfl, by decide +kernel, by decide +kernel⟩
abbrev s_run : Stmt := topS 49
abbrev n_run : List Str := ["house", "way", "life", "coins", "store", "history", "deepest", "story", "moment", "drawer", "page", "content", "coin", "sealed"]
theorem sc_run : FnScope n_run ["house", "way", "life", "coins"] (defScope s_run) := ⟨rfl, rfl, rfl, by decide +kernel, rfl, by decide +kernel, by decide +kernel⟩
abbrev s_opened : Stmt := topS 50
abbrev n_opened : List Str := ["cells", "drawer", "held"]
theorem sc_opened : FnScope n_opened ["cells", "drawer"] (defScope s_opened) := ⟨rfl, rfl, rfl, by decide +kernel, rfl, by decide +kernel, by decide +kernel⟩
abbrev s_seen : Stmt := topS 51
abbrev n_seen : List Str := ["history", "drawer", "times", "shown", "before", "at", "since", "state", "cell"]
theorem sc_seen : FnScope n_seen ["history", "drawer", "times"] (defScope s_seen) := ⟨rfl, rfl, rfl, by decide +kernel, rfl, by decide +kernel, by decide +kernel⟩
abbrev s_looks : Stmt := topS 52
abbrev n_looks : List Str := ["house", "way", "life", "coins", "drawer", "_", "history"]
theorem sc_looks : FnScope n_looks ["house", "way", "life", "coins", "drawer"] (defScope s_looks) := ⟨rfl, rfl, rfl, by decide +kernel, rfl, by decide +kernel, by decide +kernel⟩
abbrev s_check_rows : Stmt := topS 55
abbrev n_check_rows : List Str := ["house", "moments"]
theorem sc_check_rows : FnScope n_check_rows ["house", "moments"] (defScope s_check_rows) := ⟨rfl, rfl, rfl, by decide +kernel, rfl, by decide +kernel, by decide +kernel⟩
abbrev s_row_count : Stmt := topS 56
abbrev n_row_count : List Str := ["house", "life"]
theorem sc_row_count : FnScope n_row_count ["house", "life"] (defScope s_row_count) := ⟨rfl, rfl, rfl, by decide +kernel, rfl, by decide +kernel, by decide +kernel⟩
abbrev s_wait_counts : Stmt := topS 57
abbrev n_wait_counts : List Str := ["house", "way", "story", "drawer", "life", "counts", "coins", "store", "_", "many"]
theorem sc_wait_counts : FnScope n_wait_counts ["house", "way", "story", "drawer"] (defScope s_wait_counts) := ⟨rfl, rfl, rfl, by decide +kernel, rfl, by decide +kernel, by decide +kernel⟩
abbrev s_check_waits : Stmt := topS 58
abbrev n_check_waits : List Str := ["house", "way", "story", "drawer"]
theorem sc_check_waits : FnScope n_check_waits ["house", "way", "story", "drawer"] (defScope s_check_waits) := ⟨rfl, rfl, rfl, by decide +kernel, rfl, by decide +kernel, by decide +kernel⟩
abbrev s_waiting_counts : Stmt := topS 59
abbrev n_waiting_counts : List Str := ["house", "way", "story", "drawer"]
theorem sc_waiting_counts : FnScope n_waiting_counts ["house", "way", "story", "drawer"] (defScope s_waiting_counts) := ⟨rfl, rfl, rfl, by decide +kernel, rfl, by decide +kernel, by decide +kernel⟩
abbrev s__law_taken : Stmt := topS 61
abbrev n__law_taken : List Str := ["row", "many", "found", "cell"]
theorem sc__law_taken : FnScope n__law_taken ["row", "many"] (defScope s__law_taken) := ⟨rfl, rfl, rfl, by decide +kernel, rfl, by decide +kernel, by decide +kernel⟩
abbrev s__law_pick : Stmt := topS 62
abbrev n__law_pick : List Str := ["row", "things"]
theorem sc__law_pick : FnScope n__law_pick ["row", "things"] (defScope s__law_pick) := ⟨rfl, rfl, rfl, by decide +kernel, rfl, by decide +kernel, by decide +kernel⟩
abbrev s__law_alike : Stmt := topS 63
abbrev n__law_alike : List Str := ["found", "due", "k"]
theorem sc__law_alike : FnScope n__law_alike ["found", "due"] (defScope s__law_alike) := ⟨rfl, rfl, rfl, by decide +kernel, rfl, by decide +kernel, by decide +kernel⟩
abbrev s__law_choices : Stmt := topS 64
abbrev n__law_choices : List Str := ["many", "some", "found", "k"]
theorem sc__law_choices : FnScope n__law_choices ["many", "some"] (defScope s__law_choices) := ⟨rfl, rfl, rfl, by decide +kernel, rfl, by decide +kernel, by decide +kernel⟩
abbrev s__law_sets : Stmt := topS 65
abbrev n__law_sets : List Str := ["cells", "many", "found", "turn", "longer", "one", "cell"]
theorem sc__law_sets : FnScope n__law_sets ["cells", "many"] (defScope s__law_sets) := ⟨rfl, rfl, rfl, by decide +kernel, rfl, by decide +kernel, by decide +kernel⟩
abbrev s__law_house : Stmt := topS 66
abbrev n__law_house : List Str := ["row", "most", "cells"]
theorem sc__law_house : FnScope n__law_house ["row", "most"] (defScope s__law_house) := ⟨rfl, rfl, rfl, by decide +kernel, rfl, by decide +kernel, by decide +kernel⟩
abbrev s__law_moment : Stmt := topS 67
abbrev n__law_moment : List Str := ["row", "house", "deepest", "most", "k"]
theorem sc__law_moment : FnScope n__law_moment ["row", "house", "deepest", "most"] (defScope s__law_moment) := ⟨rfl, rfl, rfl, by decide +kernel, rfl, by decide +kernel, by decide +kernel⟩
abbrev s__law_life : Stmt := topS 68
abbrev n__law_life : List Str := ["row", "house", "moments", "found", "left", "k", "deepest", "many", "j"]
theorem sc__law_life : FnScope n__law_life ["row", "house", "moments"] (defScope s__law_life) := ⟨rfl, rfl, rfl, by decide +kernel, rfl, by decide +kernel, by decide +kernel⟩
abbrev s__law_length : Stmt := topS 69
abbrev n__law_length : List Str := ["life", "one"]
theorem sc__law_length : FnScope n__law_length ["life"] (defScope s__law_length) := ⟨rfl, rfl, rfl, by decide +kernel, rfl, by decide +kernel, by decide +kernel⟩
abbrev s__law_coins : Stmt := topS 70
abbrev n__law_coins : List Str := ["row", "house", "many", "k"]
theorem sc__law_coins : FnScope n__law_coins ["row", "house", "many"] (defScope s__law_coins) := ⟨rfl, rfl, rfl, by decide +kernel, rfl, by decide +kernel, by decide +kernel⟩
abbrev s__law_upper : Stmt := topS 71
abbrev n__law_upper : List Str := ["life", "drawer", "found", "deepest", "story", "moment", "one"]
theorem sc__law_upper : FnScope n__law_upper ["life", "drawer"] (defScope s__law_upper) := ⟨rfl, rfl, rfl, by decide +kernel, rfl, by decide +kernel, by decide +kernel⟩
abbrev s__law_told : Stmt := topS 72
abbrev n__law_told : List Str := ["work", "e"]
theorem sc__law_told : FnScope n__law_told ["work"] (defScope s__law_told) := ⟨rfl, rfl, rfl, by decide +kernel, rfl, by decide +kernel, by decide +kernel⟩
abbrev s__law_is_moment : Stmt := topS 73
abbrev n__law_is_moment : List Str := ["house", "value", "deepest", "one", "k"]
theorem sc__law_is_moment : FnScope n__law_is_moment ["house", "value", "deepest"] (defScope s__law_is_moment) := ⟨rfl, rfl, rfl, by decide +kernel, rfl, by decide +kernel, by decide +kernel⟩
abbrev s__law_wrong_story : Stmt := topS 74
abbrev n__law_wrong_story : List Str := ["house", "value", "deepest", "bad", "k"]
theorem sc__law_wrong_story : FnScope n__law_wrong_story ["house", "value", "deepest"] (defScope s__law_wrong_story) := ⟨rfl, rfl, rfl, by decide +kernel, rfl, by decide +kernel, by decide +kernel⟩
abbrev s__law_wrong_life : Stmt := topS 75
abbrev n__law_wrong_life : List Str := ["house", "value", "many", "at", "one"]
theorem sc__law_wrong_life : FnScope n__law_wrong_life ["house", "value"] (defScope s__law_wrong_life) := ⟨rfl, rfl, rfl, by decide +kernel, rfl, by decide +kernel, by decide +kernel⟩
abbrev s_law : Stmt := topS 76
abbrev n_law : List Str := ["script", "row", "house", "life", "story", "deed", "bad", "k", "moments", "value", "wrong", "j", "sessions", "many", "rows", "top", "coins", "at", "drawer", "other"]
theorem sc_law : FnScope n_law ["script"] (defScope s_law) := ⟨rfl, rfl, rfl, by decide +kernel, rfl, by decide +kernel, by decide +kernel⟩
end K01

set_option maxHeartbeats 4000000
namespace K01
open PySem PySem.Spec PyProof.Rows L2 Hd
abbrev FnP (K : PySem.W.Frag) (x : Str) (st : Stmt) (f : Addr) (fd : FuncData) : Prop := FunD K x x (defArgs st) (defBody st) (defScope st) [] [] f fd
/-- the built-in names that the module leaves free -/
structure Blt (mg : Str → Option Value) : Prop where
  isinstance : mg "isinstance" = none
  int : mg "int" = none
  bool : mg "bool" = none
  str : mg "str" = none
  tuple : mg "tuple" = none
  list : mg "list" = none
  len : mg "len" = none
  range : mg "range" = none
  enumerate : mg "enumerate" = none
  min : mg "min" = none
  sum : mg "sum" = none
  comb : mg "comb" = some (.builtin "math.comb")
  least : ∃ tk, mg "LEAST_CELLS" = some (.int 2 tk)
  most : ∃ tk, mg "MOST_CELLS" = some (.int 12 tk)
/-! ### values -/
/-- an integer from lo to hi -/
def isNum : V → Int → Int → Bool
  | .int i, lo, hi => decide (lo ≤ i) && decide (i ≤ hi)
  | _, _, _ => false
/-- None, a bool, an int, a text, a list, a tuple: the kind's name -/
inductive KindV (K : PySem.W.Frag) (H : Hp) : V → String → Prop
  | non : KindV K H .non "NoneType"
  | bl (b : Bool) : KindV K H (.bl b) "bool"
  | int (i : Int) : KindV K H (.int i) "int"
  | str (x : Str) : KindV K H (.str x) "str"
  | lst {a : Addr} {xs : List V} (h : H a = some (.lst xs)) : KindV K H (.ref a) "list"
  | tup {a : Addr} {xs : List V} (h : H a = some (.tup xs)) : KindV K H (.ref a) "tuple"
theorem KindV.ty {K : PySem.W.Frag} {H : Hp} {v : V} {s : String} (k : KindV K H v s) : TyX K H v (.type s) := by
  cases k with
  | non => exact .base .non
  | bl b => exact .base (.bl b)
  | int i => exact .base (.int i)
  | str x => exact .base (.str x)
  | lst h => exact .base (.lst h)
  | tup h => exact .base (.tup h)
/-- whether a kind is another -/
def isK (s T : String) : Bool := s == T || (s == "bool" && T == "int")
theorem KindV.is {K : PySem.W.Frag} {H : Hp} {v : V} {s : String} (k : KindV K H v s) (T : String) (hT : T = "int" ∨ T = "bool" ∨ T = "tuple" ∨ T = "list" ∨ T = "str") : kitB s T = some (isK s T) := by
  rcases hT with rfl | rfl | rfl | rfl | rfl <;> cases k <;> decide +kernel
theorem KindV.isI {K : PySem.W.Frag} {H : Hp} {v : V} {s : String} (k : KindV K H v s) : kitB s "int" = some (isK s "int") := k.is "int" (by simp)
theorem KindV.isB {K : PySem.W.Frag} {H : Hp} {v : V} {s : String} (k : KindV K H v s) : kitB s "bool" = some (isK s "bool") := k.is "bool" (by simp)
theorem KindV.isT {K : PySem.W.Frag} {H : Hp} {v : V} {s : String} (k : KindV K H v s) : kitB s "tuple" = some (isK s "tuple") := k.is "tuple" (by simp)
theorem KindV.isL {K : PySem.W.Frag} {H : Hp} {v : V} {s : String} (k : KindV K H v s) : kitB s "list" = some (isK s "list") := k.is "list" (by simp)
theorem KindV.isS {K : PySem.W.Frag} {H : Hp} {v : V} {s : String} (k : KindV K H v s) : kitB s "str" = some (isK s "str") := k.is "str" (by simp)
section
variable {CX : CXT} {P : Program} {w : World} {K : PySem.W.Frag} {mg : Str → Option Value} {base : Heap}
/-! ### is_number -/
def spNumber (K : PySem.W.Frag) : Sp := fun vs H Q _ => ∃ v s lo hi, vs = [v, .int lo, .int hi] ∧ KindV K H v s ∧ Q (.bl (isNum v lo hi)) H
theorem ok_number {f : Addr} {fd : FuncData} (F : FnP K "is_number" s_is_number f fd) (B : Blt mg) : FnOk P w K mg base CX 1 f fd ["value", "least", "most"] (spNumber K) := by
  refine F.ok (CX := CX) sc_is_number (fun vs H Q E h => ?_) (fun cdv A outer s H vs Q E hr h => ?_)
  · obtain ⟨v, k, lo, hi, rfl, _⟩ := h
    rfl
  · obtain ⟨v, k, lo, hi, rfl, hk, q⟩ := h
    refine ⟨_, (pss_one (ps_ret (pe_and (pe_callB call_isS (by rfl) B.isinstance (by decide +kernel) (pa_cons (pv 0) (pa_cons (pe_ty "int" (by rfl) B.int (by decide +kernel)) pa_nil)))
      (pe_and (pe_not (pe_callB call_isS (by rfl) B.isinstance (by decide +kernel) (pa_cons (pv 0) (pa_cons (pe_ty "bool" (by rfl) B.bool (by decide +kernel)) pa_nil)))) (pe_one (pe_chain op_le op_le (pv 1) (pv 0) (pv 2))))))), ?_⟩
    refine ⟨_, rfl, _, _, "int", _, rfl, hk.ty, hk.isI, _, rfl, ?_⟩
    cases hk with
    | non => exact iteF q
    | str x => exact iteF q
    | lst h => exact iteF q
    | tup h => exact iteF q
    | bl b => exact iteT ⟨_, rfl, _, _, "bool", _, rfl, (KindV.bl b).ty, (KindV.bl (K := K) (H := H) b).isB, _, rfl, _, rfl, iteF q⟩
    | int i =>
      refine iteT ⟨_, rfl, _, _, "bool", _, rfl, (KindV.int i).ty, (KindV.int (K := K) (H := H) i).isB, _, rfl, _, rfl, iteT ⟨_, rfl, _, rfl, _, _, rfl, rfl, _, rfl, ?_⟩⟩
      have e : isNum (.int i) lo hi = (decide (lo ≤ i) && decide (i ≤ hi)) := rfl
      rw [e] at q
      refine ite2 (fun h => ⟨_, rfl, _, _, rfl, rfl, ?_⟩) (fun h => ?_)
      · rw [h] at q
        exact q
      · rw [Bool.not_eq_true] at h
        rw [h] at q
        exact q
end
end K01

set_option maxHeartbeats 4000000
namespace K01
open PySem PySem.Spec PyProof.Rows L2 Hd
/-! ### what is wrong with a house -/
def vInt : V → Int
  | .int i => i
  | _ => 0
def optV : Option Str → V
  | none => .non
  | some x => .str x
def wrongOf (c s d p n : V) : Option Str :=
  if isNum c 2 12 = false then some "cells" else if isNum s 1 (vInt c) = false then some "sealed" else if isNum d 1 4 = false then some "drawers" else if isNum p 1 6 = false then some "pages" else if isNum n 1 3 = false then some "copies" else none
def wrong5 : List V → Option Str
  | [c, s, d, p, n] => wrongOf c s d p n
  | _ => some "form"
inductive Wr (K : PySem.W.Frag) (H : Hp) : V → Option Str → Prop
  | out {v : V} {s : String} (k : KindV K H v s) (h : isK s "tuple" = false) : Wr K H v (some "form")
  | tup {a : Addr} {xs : List V} (h : H a = some (.tup xs)) (all : ∀ x ∈ xs, ∃ s, KindV K H x s) : Wr K H (.ref a) (wrong5 xs)
theorem isNum_int {v : V} {lo hi : Int} (h : isNum v lo hi = true) : v = .int (vInt v) := by
  cases v <;> first | rfl | cases h
section
variable {CX : CXT} {P : Program} {w : World} {K : PySem.W.Frag} {mg : Str → Option Value} {base : Heap}
def spWrong (K : PySem.W.Frag) : Sp := fun vs H Q _ => ∃ v o, vs = [v] ∧ Wr K H v o ∧ Q (optV o) H
structure TNum (P : Program) (w : World) (K : PySem.W.Frag) (mg : Str → Option Value) (base : Heap) (f : Addr) (fd : FuncData) : Prop where
  G : FnOk P w K mg base CX0 1 f fd ["value", "least", "most"] (spNumber K)
  m : mg "is_number" = some (.ref f)
  k : PySem.W.keepIn K (.ref f) = true
  b : Binds K fd ["value", "least", "most"] []
theorem ok_wrong {f fN : Addr} {fd fdN : FuncData} (F : FnP K "wrong_word" s_wrong_word f fd) (B : Blt mg) (T : TNum P w K mg base fN fdN) : FnOk P w K mg base CX 2 f fd ["value"] (spWrong K) := by
  refine F.ok (CX := CX) sc_wrong_word (fun vs H Q E h => ?_) (fun cdv A outer s H vs Q E hr h => ?_)
  · obtain ⟨v, o, rfl, _⟩ := h
    rfl
  · obtain ⟨v, o, rfl, hw, q⟩ := h
    obtain ⟨tk2, hl2⟩ := B.least
    obtain ⟨tk12, hl12⟩ := B.most
    refine ⟨_, (pss_cons (ps_if (PW.pt (pw_or (pt_not (pt_val (pe_callB call_isS (by rfl) B.isinstance (by decide +kernel) (pa_cons (pv 0) (pa_cons (pe_ty "tuple" (by rfl) B.tuple (by decide +kernel)) pa_nil))))) (pw_or1 (pt_cmpR op_ne (pe_callB call_len_seq (by rfl) B.len (by decide +kernel) (pa_cons (pv 0) pa_nil)) pe_int (nomark _))))) (pss_one (ps_ret pe_str)) pss_nil)
    (pss_cons (ps_asg (pv 0) (pg_tup rfl (pgs_cons (pg_name (i := 1) sc_wrong_word.nd rfl (Or.inl rfl)) (pgs_cons (pg_name (i := 2) sc_wrong_word.nd rfl (Or.inl rfl)) (pgs_cons (pg_name (i := 3) sc_wrong_word.nd rfl (Or.inl rfl)) (pgs_cons (pg_name (i := 4) sc_wrong_word.nd rfl (Or.inl rfl)) (pgs_cons (pg_name (i := 5) sc_wrong_word.nd rfl (Or.inl rfl)) pgs_nil)))))))
    (pss_cons (ps_if (pt_not (pt_val (pe_call T.G hr (by rfl) T.m T.k T.b .nil pass0 (pa_cons (pv 1) (pa_cons (pe_glob (v := .int 2) rfl hl2 ⟨tk2, rfl⟩) (pa_cons (pe_glob (v := .int 12) rfl hl12 ⟨tk12, rfl⟩) pa_nil)))))) (pss_one (ps_ret pe_str)) pss_nil)
    (pss_cons (ps_if (pt_not (pt_val (pe_call T.G hr (by rfl) T.m T.k T.b .nil pass0 (pa_cons (pv 2) (pa_cons pe_int (pa_cons (pv 1) pa_nil)))))) (pss_one (ps_ret pe_str)) pss_nil)
    (pss_cons (ps_if (pt_not (pt_val (pe_call T.G hr (by rfl) T.m T.k T.b .nil pass0 (pa_cons (pv 3) (pa_cons pe_int (pa_cons pe_int pa_nil)))))) (pss_one (ps_ret pe_str)) pss_nil)
    (pss_cons (ps_if (pt_not (pt_val (pe_call T.G hr (by rfl) T.m T.k T.b .nil pass0 (pa_cons (pv 4) (pa_cons pe_int (pa_cons pe_int pa_nil)))))) (pss_one (ps_ret pe_str)) pss_nil)
    (pss_cons (ps_if (pt_not (pt_val (pe_call T.G hr (by rfl) T.m T.k T.b .nil pass0 (pa_cons (pv 5) (pa_cons pe_int (pa_cons pe_int pa_nil)))))) (pss_one (ps_ret pe_str)) pss_nil)
    (pss_one (ps_ret pe_non))))))))), ?_⟩
    cases hw with
    | @out v sk k hk =>
      refine ⟨_, rfl, _, _, "tuple", _, rfl, k.ty, k.isT, _, rfl, ?_⟩
      rw [hk]
      exact iteT (iteT q)
    | @tup a xs ha all =>
      refine ⟨_, rfl, _, _, "tuple", _, rfl, (KindV.tup ha).ty, (KindV.tup (K := K) ha).isT, _, rfl, iteF ?_⟩
      refine ⟨_, rfl, a, xs, rfl, .inr (SqT.of ha), rfl, _, rfl, ?_⟩
      by_cases h5 : xs.length = 5
      · match xs, h5 with
        | [x1, x2, x3, x4, x5], _ =>
          refine iteF ⟨_, rfl, a, _, rfl, SqT.of ha, rfl, _, _, rfl, _, _, rfl, _, _, rfl, _, _, rfl, _, _, rfl, rfl, ?_⟩
          obtain ⟨k1, g1⟩ := all x1 (by simp)
          obtain ⟨k2, g2⟩ := all x2 (by simp)
          obtain ⟨k3, g3⟩ := all x3 (by simp)
          obtain ⟨k4, g4⟩ := all x4 (by simp)
          obtain ⟨k5, g5⟩ := all x5 (by simp)
          change Q (optV (wrongOf x1 x2 x3 x4 x5)) H at q
          unfold wrongOf at q
          refine ⟨x1, rfl, x1, k1, 2, 12, rfl, g1, _, rfl, ?_⟩
          cases e1 : isNum x1 2 12 with
          | false =>
            rw [if_pos e1] at q
            exact iteT q
          | true =>
            rw [if_neg (by rw [e1]; decide)] at q
            refine iteF ⟨x2, rfl, x1, rfl, x2, k2, 1, vInt x1, by rw [← isNum_int e1] <;> rfl, g2, _, rfl, ?_⟩
            cases e2 : isNum x2 1 (vInt x1) with
            | false =>
              rw [if_pos e2] at q
              exact iteT q
            | true =>
              rw [if_neg (by rw [e2]; decide)] at q
              refine iteF ⟨x3, rfl, x3, k3, 1, 4, rfl, g3, _, rfl, ?_⟩
              cases e3 : isNum x3 1 4 with
              | false =>
                rw [if_pos e3] at q
                exact iteT q
              | true =>
                rw [if_neg (by rw [e3]; decide)] at q
                refine iteF ⟨x4, rfl, x4, k4, 1, 6, rfl, g4, _, rfl, ?_⟩
                cases e4 : isNum x4 1 6 with
                | false =>
                  rw [if_pos e4] at q
                  exact iteT q
                | true =>
                  rw [if_neg (by rw [e4]; decide)] at q
                  refine iteF ⟨x5, rfl, x5, k5, 1, 3, rfl, g5, _, rfl, ?_⟩
                  cases e5 : isNum x5 1 3 with
                  | false =>
                    rw [if_pos e5] at q
                    exact iteT q
                  | true =>
                    rw [if_neg (by rw [e5]; decide)] at q
                    exact iteF q
      · have e : (!decide (V.int (xs.length : Int) = V.int 5)) = true := by
          rw [decide_eq_false (fun z => h5 (by injection z with z; omega))] <;> rfl
        rw [e]
        have e2 : wrong5 xs = some "form" := by
          match xs, h5 with
          | [], _ => rfl
          | [_], _ => rfl
          | [_, _], _ => rfl
          | [_, _, _], _ => rfl
          | [_, _, _, _], _ => rfl
          | [_, _, _, _, _], h => exact absurd rfl h
          | _ :: _ :: _ :: _ :: _ :: _ :: _, _ => rfl
        rw [e2] at q
        exact iteT q
end
end K01

set_option maxHeartbeats 4000000
namespace K01
open PySem PySem.Spec PyProof.Rows L2 Hd Evl
/-! ### houses -/
structure HouseAt (H : Hp) (a : Addr) (n k d p c : Nat) : Prop where
  at_ : H a = some (.tup [.int n, .int k, .int d, .int p, .int c])
  n2 : 2 ≤ n
  n12 : n ≤ 12
  k1 : 1 ≤ k
  kn : k ≤ n
  d1 : 1 ≤ d
  d4 : d ≤ 4
  p1 : 1 ≤ p
  p6 : p ≤ 6
  c1 : 1 ≤ c
  c3 : c ≤ 3
theorem HouseAt.ex {H H' : Hp} {a : Addr} {n k d p c : Nat} (h : HouseAt H a n k d p c) (e : Ex H H') : HouseAt H' a n k d p c := { h with at_ := e _ _ h.at_ }
theorem num_of {v : V} {lo hi : Int} (h : isNum v lo hi = true) (h0 : 0 ≤ lo) : ∃ i : Nat, v = .int i ∧ lo ≤ i ∧ (i : Int) ≤ hi := by
  cases v with
  | int i =>
    have h1 : (decide (lo ≤ i) && decide (i ≤ hi)) = true := h
    rw [Bool.and_eq_true] at h1
    have a := of_decide_eq_true h1.1
    have b := of_decide_eq_true h1.2
    exact ⟨i.toNat, by rw [Int.toNat_of_nonneg (by omega)], by omega, by omega⟩
  | _ => cases h
theorem isNum_nat {i : Nat} {lo hi : Int} : isNum (.int (i : Int)) lo hi = (decide (lo ≤ (i : Int)) && decide ((i : Int) ≤ hi)) := rfl
theorem wrongOf_none {c s d p n : V} (h : wrongOf c s d p n = none) : isNum c 2 12 = true ∧ isNum s 1 (vInt c) = true ∧ isNum d 1 4 = true ∧ isNum p 1 6 = true ∧ isNum n 1 3 = true := by
  unfold wrongOf at h
  cases e1 : isNum c 2 12 <;> rw [e1] at h <;> first | cases h | skip
  cases e2 : isNum s 1 (vInt c) <;> rw [e2] at h <;> first | cases h | skip
  cases e3 : isNum d 1 4 <;> rw [e3] at h <;> first | cases h | skip
  cases e4 : isNum p 1 6 <;> rw [e4] at h <;> first | cases h | skip
  cases e5 : isNum n 1 3 <;> rw [e5] at h <;> first | cases h | skip
  exact ⟨rfl, rfl, rfl, rfl, rfl⟩
theorem Wr.house {K : PySem.W.Frag} {H : Hp} {v : V} (h : Wr K H v none) : ∃ a n k d p c, v = .ref a ∧ HouseAt H a n k d p c := by
  generalize e : (none : Option Str) = o at h
  cases h with
  | out k h => cases e
  | @tup a xs ha all =>
    match xs with
    | [x1, x2, x3, x4, x5] =>
      have e' : none = wrongOf x1 x2 x3 x4 x5 := e
      obtain ⟨h1, h2, h3, h4, h5⟩ := wrongOf_none e'.symm
      obtain ⟨n, rfl, a1, b1⟩ := num_of h1 (by decide)
      obtain ⟨k, rfl, a2, b2⟩ := num_of h2 (by decide)
      obtain ⟨d, rfl, a3, b3⟩ := num_of h3 (by decide)
      obtain ⟨p, rfl, a4, b4⟩ := num_of h4 (by decide)
      obtain ⟨c, rfl, a5, b5⟩ := num_of h5 (by decide)
      have b2' : (k : Int) ≤ (n : Int) := b2
      exact ⟨a, n, k, d, p, c, rfl, ⟨ha, by omega, by omega, by omega, by omega, by omega, by omega, by omega, by omega, by omega, by omega⟩⟩
    | [] => cases e
    | [_] => cases e
    | [_, _] => cases e
    | [_, _, _] => cases e
    | [_, _, _, _] => cases e
    | _ :: _ :: _ :: _ :: _ :: _ :: _ => cases e
theorem HouseAt.wr {K : PySem.W.Frag} {H : Hp} {a : Addr} {n k d p c : Nat} (h : HouseAt H a n k d p c) : Wr K H (.ref a) none := by
  have e : wrong5 [.int n, .int k, .int d, .int p, .int c] = none := by
    show wrongOf (.int n) (.int k) (.int d) (.int p) (.int c) = none
    unfold wrongOf
    have t : ∀ {i : Nat} {lo hi : Int}, lo ≤ i → (i : Int) ≤ hi → isNum (.int (i : Int)) lo hi = true := fun h1 h2 => by
      rw [isNum_nat, decide_eq_true h1, decide_eq_true h2] <;> rfl
    have := h.n2; have := h.n12; have := h.k1; have := h.kn; have := h.d1; have := h.d4; have := h.p1; have := h.p6; have := h.c1; have := h.c3
    rw [t (i := n) (lo := 2) (hi := 12) (by omega) (by omega), t (i := k) (lo := 1) (hi := vInt (.int n)) (by omega) (by show (k : Int) ≤ (n : Int); omega), t (i := d) (lo := 1) (hi := 4) (by omega) (by omega), t (i := p) (lo := 1) (hi := 6) (by omega) (by omega), t (i := c) (lo := 1) (hi := 3) (by omega) (by omega)] <;> rfl
  rw [← e]
  refine .tup h.at_ fun x hx => ?_
  simp only [List.mem_cons, List.mem_nil_iff, or_false] at hx
  rcases hx with rfl | rfl | rfl | rfl | rfl <;> exact ⟨_, .int _⟩
/-- BadHouse(x) leaves a def -/
def Refuses (CB : Addr) (E : XK) (H : Hp) (x : Str) : Prop := ∀ d H', Ex H H' → H d = none → H' d = some (.xd [("word", .str x)]) → E (.ref CB) (some d) H'
section
variable {CX : CXT} {P : Program} {w : World} {K : PySem.W.Frag} {mg : Str → Option Value} {base : Heap} {CB CN : Addr}
/-! ### BadHouse.__init__ -/
theorem ok_BadHouse_init {f : Addr} {fd : FuncData} (F : FunD K "__init__" "BadHouse.__init__" (defArgs s_BadHouse___init__) (defBody s_BadHouse___init__) (defScope s_BadHouse___init__) [] [] f fd) (T : OexC K CB) (no : PySem.W.findIn K (.ref CB) "word" = some none) :
    FnOk P w K mg base CX 1 f fd ["self", "word"] (spInit CB "word") := by
  refine F.ok (CX := CX) sc_BadHouse___init__ (fun vs H Q E h => ?_) (fun cdv A outer s H vs Q E hr h => ?_)
  · obtain ⟨a, x, rfl, _⟩ := h
    rfl
  · obtain ⟨a, x, rfl, ha, q⟩ := h
    exact ⟨_, pss_one (ps_ost (pv 0) (pv 1)), x, rfl, .ref a, rfl, a, CB, rfl, T, no, .inl ⟨ha, fun dx n1 n2 => q dx n1 n2⟩⟩
/-! ### is_house, check_house -/
def spIsHouse (K : PySem.W.Frag) : Sp := fun vs H Q _ => ∃ v o, vs = [v] ∧ Wr K H v o ∧ Q (.bl (o == none)) H
def spCheck (K : PySem.W.Frag) (CB : Addr) : Sp := fun vs H Q E => ∃ v o, vs = [v] ∧ Wr K H v o ∧ (o = none → Q .non H) ∧ ∀ x, o = some x → Refuses CB E H x
theorem ok_check {f fW : Addr} {fd fdW : FuncData} (F : FnP K "check_house" s_check_house f fd) (T : Fn P w K mg base CX0 2 "wrong_word" ["value"] (spWrong K) fW fdW) (B : ErrF P w K mg base "BadHouse" "word" CB) :
    FnOk P w K mg base (L2.CX P w) 3 f fd ["house"] (spCheck K CB) := by
  refine F.ok (CX := L2.CX P w) sc_check_house (fun vs H Q E h => ?_) (fun cdv A outer s H vs Q E hr h => ?_)
  · obtain ⟨v, o, rfl, _⟩ := h
    rfl
  · obtain ⟨v, o, rfl, hw, q0, q1⟩ := h
    refine ⟨_, pss_cons (ps_set (i := 1) sc_check_house.nd rfl (Or.inl rfl) (pe_call T.G hr (by rfl) T.m T.k T.b .nil pass0 (pa_cons (pv 0) pa_nil)))
      (pss_one (ps_if (pt_cmpR op_notN (pv 1) pe_non (nomark _)) (pss_one (ps_raiseF B rfl hr (takes_of rfl rfl rfl rfl) (by rfl) (pa_cons (pv 1) pa_nil))) pss_nil)), ?_⟩
    refine ⟨v, rfl, v, o, rfl, hw, optV o, rfl, rfl, _, rfl, ?_⟩
    cases o with
    | none => exact iteF (q0 rfl)
    | some x => exact iteT ⟨_, rfl, .str x, rfl, fun d H2 e n a => q1 x rfl d H2 e n a⟩
/-! ### coin_count, is_coin -/
theorem comb_le {n k : Nat} (h : n ≤ 12) (h2 : k ≤ n) : PySem.W.mcComb (n : Int) (k : Int) = (nck n k : Nat) := comb_bin h (by omega)
def spCount (K : PySem.W.Frag) (CB : Addr) : Sp := fun vs H Q E => ∃ v o, vs = [v] ∧ Wr K H v o ∧ (∀ a n k d p c, v = .ref a → HouseAt H a n k d p c → Q (.int (nck n k : Nat)) H) ∧ ∀ x, o = some x → Refuses CB E H x
def spIsCoin (K : PySem.W.Frag) : Sp := fun vs H Q _ => ∃ a n k d p c v s, vs = [.ref a, v] ∧ HouseAt H a n k d p c ∧ KindV K H v s ∧ Q (.bl (isNum v 0 ((nck n k : Nat) - 1))) H
theorem ok_is_coin {f fN : Addr} {fd fdN : FuncData} (F : FnP K "is_coin" s_is_coin f fd) (T : Fn P w K mg base CX0 1 "is_number" ["value", "least", "most"] (spNumber K) fN fdN) (B : Blt mg) : FnOk P w K mg base CX 2 f fd ["house", "value"] (spIsCoin K) := by
  refine F.ok (CX := CX) sc_is_coin (fun vs H Q E h => ?_) (fun cdv A outer s H vs Q E hr h => ?_)
  · obtain ⟨a, n, k, d, p, c, v, s, rfl, _⟩ := h
    rfl
  · obtain ⟨a, n, k, d, p, c, v, sk, rfl, h, hk, q⟩ := h
    refine ⟨_, (pss_one (ps_ret (pe_call T.G hr (by rfl) T.m T.k T.b .nil pass0 (pa_cons (pv 1) (pa_cons pe_int (pa_cons (pe_op op_sub (pe_callBfun call_comb (by rfl) B.comb (pa_cons (pe_ix ix_tup (pv 0) pe_int (fun _ _ => rfl)) (pa_cons (pe_ix ix_tup (pv 0) pe_int (fun _ _ => rfl)) pa_nil))) pe_int) pa_nil)))))), ?_⟩
    have := h.n12; have := h.kn
    refine ⟨v, rfl, .ref a, rfl, a, _, _, .int n, rfl, rfl, SqT.of h.at_, atI_nat (j := 0) rfl, .ref a, rfl, a, _, _, .int k, rfl, rfl, SqT.of h.at_, atI_nat (j := 1) rfl, (n : Int), (k : Int), rfl, by omega, by omega, by omega, _, _, rfl, rfl, v, sk, _, _, rfl, hk, ?_⟩
    rw [comb_le (by omega) (by omega)]
    exact q
end
end K01

set_option maxHeartbeats 4000000
namespace K01
open PySem PySem.Spec PyProof.Rows L2 Hd Evl
abbrev iV (c : Nat) : V := .int (c : Int)
/-- a new tuple -/
def RetT (xs : List V) (H : Hp) (Q : VK) : Prop := ∀ p H2, H p = none → Ex H H2 → H2 p = some (.tup xs) → Q (.ref p) H2
section
variable {CX : CXT} {P : Program} {w : World} {K : PySem.W.Frag} {mg : Str → Option Value} {base : Heap} {CB CN : Addr}
/-! ### drawn -/
structure DrawnP (K : PySem.W.Frag) (CB CN : Addr) (vs : List V) (H : Hp) (Q : VK) (E : XK) : Prop where
  go : ∃ v x o, vs = [v, x] ∧ Wr K H v o ∧ (∀ y, o = some y → Refuses CB E H y) ∧
  ∀ a n k d p c, v = .ref a → HouseAt H a n k d p c → (∃ s, KindV K H x s) ∧ (isNum x 0 ((nck n k : Nat) - 1) = false → E (.ref CN) none H) ∧ ∀ i : Nat, x = .int i → i < nck n k → RetT ((drawN n k i 0).map iV) H Q
def spDrawn (K : PySem.W.Frag) (CB CN : Addr) : Sp := fun vs H Q E => DrawnP K CB CN vs H Q E
theorem ok_drawn {f fC fI : Addr} {fd fdC fdI : FuncData} (F : FnP K "drawn" s_drawn f fd) (T : Fn P w K mg base (L2.CX P w) 3 "check_house" ["house"] (spCheck K CB) fC fdC) (TI : Fn P w K mg base CX0 2 "is_coin" ["house", "value"] (spIsCoin K) fI fdI) (N : ErrP K mg "BadNumber" CN) (B : Blt mg) :
    FnOk P w K mg base (L2.CX P w) 4 f fd ["house", "coin"] (spDrawn K CB CN) := by
  refine F.ok (CX := L2.CX P w) sc_drawn (fun vs H Q E h => ?_) (fun cdv A outer s H vs Q E hr h => ?_)
  · obtain ⟨v, x, o, rfl, _⟩ := h
    rfl
  · obtain ⟨v, x, o, rfl, hw, q1, q⟩ := h
    refine ⟨_, (pss_cons (ps_expr (pe_call T.G hr (by rfl) T.m T.k T.b .nil (passX (E := E) rfl rfl rfl rfl) (pa_cons (pv 0) pa_nil)))
    (pss_cons (ps_if (pt_not (pt_val (pe_call TI.G (hr.mono (by decide)) (by rfl) TI.m TI.k TI.b .nil pass0 (pa_cons (pv 0) (pa_cons (pv 1) pa_nil))))) (pss_one (ps_raiseP N rfl (takes_of (E := E) rfl rfl rfl rfl) (by rfl))) pss_nil)
    (pss_cons (ps_par (i := 2) (j := 3) (by rfl) sc_drawn.nd rfl rfl (by decide) rfl rfl (pa_cons (pe_ix ix_tup (pv 0) pe_int (fun _ _ => rfl)) (pa_cons (pe_ix ix_tup (pv 0) pe_int (fun _ _ => rfl)) pa_nil)) (by rfl))
    (pss_cons (ps_set (i := 4) sc_drawn.nd rfl (Or.inl rfl) (pe_lst pa_nil))
    (pss_cons (ps_set (i := 5) sc_drawn.nd rfl (Or.inl rfl) (pv 1))
    (pss_cons (ps_set (i := 6) sc_drawn.nd rfl (Or.inl rfl) pe_int)
    (pss_cons (ps_while (passes_of rfl) (pt_cmpR op_lt (pe_callB call_len_seq (by rfl) B.len (by decide +kernel) (pa_cons (pv 4) pa_nil)) (pv 3) (nomark _)) (pss_cons (ps_set (i := 7) sc_drawn.nd rfl (Or.inl rfl) (pe_callBfun call_comb (by rfl) B.comb (pa_cons (pe_op op_sub (pe_op op_sub (pv 2) (pv 6)) pe_int) (pa_cons (pe_op op_sub (pe_op op_sub (pv 3) (pe_callB call_len_seq (by rfl) B.len (by decide +kernel) (pa_cons (pv 4) pa_nil))) pe_int) pa_nil))))
    (pss_cons (ps_if (pt_cmpR op_lt (pv 5) (pv 7) (nomark _)) (pss_one (ps_expr (pe_bm PySem.F.plainAttrs_list PySem.F.slot_list_append PySem.F.type_list_append mt_append (pv 4) (pa_cons (pv 6) pa_nil)))) (pss_one (ps_aug (i := 5) sc_drawn.nd rfl (Or.inl rfl) (pv 7) ip_sub)))
    (pss_one (ps_aug (i := 6) sc_drawn.nd rfl (Or.inl rfl) pe_int ip_add)))))
    (pss_one (ps_ret (pe_callTy call_tuple_of (by rfl) B.tuple (by decide +kernel) (pa_cons (pv 4) pa_nil))))))))))), ?_⟩
    refine ⟨v, rfl, v, o, rfl, hw, fun e => ?_, q1⟩
    subst e
    obtain ⟨a, n, k, d, p, c, rfl, h⟩ := hw.house
    obtain ⟨⟨sk, hk⟩, q2, q3⟩ := q a n k d p c rfl h
    have n12 := h.n12; have kn := h.kn
    refine ⟨.ref a, rfl, x, rfl, a, n, k, d, p, c, x, sk, rfl, h, hk, _, rfl, ?_⟩
    cases eb : isNum x 0 ((nck n k : Nat) - 1) with
    | false => exact iteT (q2 eb)
    | true =>
      obtain ⟨i, rfl, _, hi⟩ := num_of eb (by decide)
      have hi' : i < nck n k := by have := nck_pos kn; omega
      refine iteF ⟨.ref a, rfl, a, _, _, .int n, rfl, rfl, SqT.of h.at_, atI_nat (j := 0) rfl, .ref a, rfl, a, _, _, .int k, rfl, rfl, SqT.of h.at_, atI_nat (j := 1) rfl, _, _, rfl, ?_⟩
      refine ⟨Nat.zero_le _, fun l nl => ⟨_, rfl, ?_⟩⟩
      refine ⟨fun m σ G => ∃ (ch : List Nat) (ah cell : Nat) (mv : Option V), σ = [some (.ref a), some (.int i), some (iV n), some (iV k), some (.ref l), some (iV ah), some (iV cell), mv] ∧ Ex H G ∧ G l = some (.lst (ch.map iV)) ∧ m + cell = n ∧ ch.length ≤ k ∧
        ah < nck (n - cell) (k - ch.length) ∧ ch ++ drawN (n - cell) (k - ch.length) ah cell = drawN n k i 0, ⟨n, [], i, 0, none, rfl, Ex.new nl, upd_same, rfl, Nat.zero_le _, hi', rfl⟩, ?_⟩
      rintro m σ G ⟨ch, ah, cell, mv, rfl, ex, el, em, lk, lah, eq⟩
      have hL : SqL K G l (ch.map iV) := SqL.of el
      refine ⟨.ref l, rfl, l, _, rfl, .inl hL, .int k, rfl, _, _, rfl, rfl, _, rfl, ite2 (fun e => ?_) (fun e => ?_)⟩
      · have e1 : ch.length < k := by
          have := of_decide_eq_true e
          rw [List.length_map] at this
          omega
        have cn : cell < n := by
          rcases Nat.lt_or_ge cell n with z | z
          · exact z
          · rw [show n - cell = 0 by omega, show k - ch.length = (k - ch.length - 1) + 1 by omega] at lah
            exact absurd lah (by simp [nck])
        obtain ⟨mm, e2⟩ : ∃ mm, n - cell = mm + 1 := ⟨n - cell - 1, by omega⟩
        obtain ⟨kk, e3⟩ : ∃ kk, k - ch.length = kk + 1 := ⟨k - ch.length - 1, by omega⟩
        rw [e2, e3] at lah eq
        have lah' : ah < nck mm kk + nck mm (kk + 1) := lah
        have eq' : ch ++ (if ah < nck mm kk then cell :: drawN mm kk ah (cell + 1) else drawN mm (kk + 1) (ah - nck mm kk) (cell + 1)) = drawN n k i 0 := eq
        refine ⟨fun σ' G' => ∃ (ch' : List Nat) (ah' : Nat) (mv' : Option V), σ' = [some (.ref a), some (.int i), some (iV n), some (iV k), some (.ref l), some (iV ah'), some (iV (cell + 1)), mv'] ∧ Ex H G' ∧ G' l = some (.lst (ch'.map iV)) ∧ ch'.length ≤ k ∧
          ah' < nck (n - (cell + 1)) (k - ch'.length) ∧ ch' ++ drawN (n - (cell + 1)) (k - ch'.length) ah' (cell + 1) = drawN n k i 0, ?_, ?_⟩
        · rintro σ' G' ⟨ch', ah', mv', r1, r2, r3, r4, r5, r6⟩
          exact ⟨m - 1, by omega, ch', ah', cell + 1, mv', r1, r2, r3, by omega, r4, r5, r6⟩
        refine ⟨.int n, rfl, iV cell, rfl, _, _, rfl, rfl, _, _, rfl, rfl, .int k, rfl, .ref l, rfl, l, _, rfl, .inl hL, _, _, rfl, rfl, _, _, rfl, rfl, (mm : Int), (kk : Int), ?_, by omega, by omega, by omega, ?_⟩
        · show [V.int ((n : Int) - (cell : Int) - 1), V.int ((k : Int) - ((ch.map iV).length : Int) - 1)] = _
          rw [List.length_map, show (n : Int) - (cell : Int) - 1 = (mm : Int) by omega, show (k : Int) - (ch.length : Int) - 1 = (kk : Int) by omega]
        rw [comb_bin (show mm ≤ 12 by omega) (show kk ≤ 12 by omega)]
        refine ⟨iV ah, rfl, iV (nck mm kk), rfl, _, _, rfl, rfl, _, rfl, ite2 (fun e4 => ?_) (fun e4 => ?_)⟩
        · have e5 : ah < nck mm kk := by have := of_decide_eq_true e4; omega
          rw [if_pos e5] at eq'
          refine ⟨.ref l, rfl, .inl ⟨rfl, _, hL⟩, iV cell, rfl, l, _, _, rfl, rfl, el, ?_, ?_⟩
          · rw [List.length_map]
            exact small1000 (by omega)
          · refine ⟨iV cell, rfl, _, _, rfl, rfl, ch ++ [cell], ah, _, rfl, ex.mut nl, ?_, ?_, ?_, ?_⟩
            · rw [upd_same, List.map_append] <;> rfl
            · rw [List.length_append, List.length_singleton]
              omega
            · rw [List.length_append, List.length_singleton, show n - (cell + 1) = mm by omega, show k - (ch.length + 1) = kk by omega]
              exact e5
            · rw [List.length_append, List.length_singleton, show n - (cell + 1) = mm by omega, show k - (ch.length + 1) = kk by omega, List.append_assoc]
              exact eq'
        · have e5 : ¬ ah < nck mm kk := fun z => e4 (decide_eq_true (by omega))
          rw [if_neg e5] at eq'
          refine ⟨iV ah, rfl, iV (nck mm kk), rfl, _, _, rfl, rfl, iV cell, rfl, _, _, rfl, rfl, ch, ah - nck mm kk, some (iV (nck mm kk)), ?_, ex, el, lk, ?_, ?_⟩
          · have : ((ah - nck mm kk : Nat) : Int) = (ah : Int) - (nck mm kk : Int) := by omega
            show _ = [some (V.ref a), some (.int i), some (iV n), some (iV k), some (.ref l), some (V.int ((ah - nck mm kk : Nat) : Int)), some (V.int ((cell + 1 : Nat) : Int)), some (iV (nck mm kk))]
            rw [this] <;> rfl
          · rw [show n - (cell + 1) = mm by omega, e3]
            omega
          · rw [show n - (cell + 1) = mm by omega, e3]
            exact eq'
      · have e1 : ch.length = k := by
          have : ¬ ch.length < k := fun z => e (decide_eq_true (by rw [List.length_map]; omega))
          omega
        rw [e1, Nat.sub_self] at eq
        have e2 : ch = drawN n k i 0 := by
          rw [← eq]
          cases n - cell <;> simp [drawN]
        refine ⟨.ref l, rfl, l, _, rfl, .inl ⟨hL, fun t nt => ?_⟩⟩
        rw [e2]
        exact q3 i rfl hi' t _ (fresh_back ex nt) (ex.trans (Ex.new nt)) upd_same
end
end K01

set_option maxHeartbeats 4000000
namespace K01
open PySem PySem.Spec PyProof.Rows L2 Hd Evl
/-! ### the law's reader of the script -/
/-- at a the ints of the script, whatever is written at r -/
def Src (K : PySem.W.Frag) (r a : Addr) (ns : List Int) (H : Hp) : Prop := (∀ G, SqL K G a (ns.map V.int)) ∨ (a ≠ r ∧ Rd H a (.lst (ns.map V.int)))
section
variable {K : PySem.W.Frag} {r a : Addr} {ns : List Int} {H H' : Hp}
theorem Src.sq (h : Src K r a ns H) : SqL K H a (ns.map V.int) := h.elim (fun q => q H) fun q => .inl q.2
theorem Src.ex (h : Src K r a ns H) (e : Ex H H') : Src K r a ns H' := h.elim .inl fun q => .inr ⟨q.1, ex_rd e q.2⟩
theorem Src.row {o : HO} (h : Src K r a ns H) : Src K r a ns (upd H r o) := h.elim .inl fun q => .inr ⟨q.1, by
  rcases q.2 with z | ⟨u, z⟩
  · exact .inl (by rw [upd_ne q.1]; exact z)
  · exact .inr ⟨u, by rw [upd_ne q.1]; exact z⟩⟩
/-- a new address -/
theorem Src.new (h : SqL K H a (ns.map V.int)) (n : H r = none) : Src K r a ns H := by
  rcases h with h | h
  · refine .inr ⟨fun e => ?_, h⟩
    rw [e] at h
    rcases h with z | ⟨u, z⟩ <;> rw [n] at z <;> cases z
  · exact .inl fun G => .inr h
end
abbrev rowV (a : Addr) (i sd rs : Int) : List V := [.ref a, .int i, .int sd, .int rs]
section
variable {CX : CXT} {P : Program} {w : World} {K : PySem.W.Frag} {mg : Str → Option Value} {base : Heap}
structure TakenP (K : PySem.W.Frag) (vs : List V) (H : Hp) (Q : VK) (E : XK) : Prop where
  go : ∃ (r a : Addr) (ns : List Int) (i sd rs : Int) (many : Nat), vs = [.ref r, .int many] ∧ H r = some (.lst (rowV a i sd rs)) ∧ Src K r a ns H ∧ 0 ≤ i ∧ 0 ≤ sd ∧ sd < 2147483647 ∧ 1 ≤ many ∧ many < 2 ^ 60 ∧
  ∀ (i' sd' rs' : Int) (x : Nat), 0 ≤ i' → 0 ≤ sd' → sd' < 2147483647 → x < many → Q (iV x) (upd H r (.lst (rowV a i' sd' rs')))
def spTaken (K : PySem.W.Frag) : Sp := fun vs H Q E => TakenP K vs H Q E
theorem modN {i : Int} {m : Nat} (h : 1 ≤ m) : ∃ x : Nat, i % (m : Int) = (x : Int) ∧ x < m := by
  have h1 : 0 ≤ i % (m : Int) := Int.emod_nonneg i (by omega)
  have h2 : i % (m : Int) < (m : Int) := Int.emod_lt_of_pos i (by omega)
  exact ⟨(i % (m : Int)).toNat, by omega, by omega⟩
theorem modM (i : Int) : 0 ≤ i % 2147483647 ∧ i % 2147483647 < 2147483647 := ⟨Int.emod_nonneg i (by decide), Int.emod_lt_of_pos i (by decide)⟩
theorem divOk {m : Nat} (h : 1 ≤ m) (h2 : m < 2 ^ 60) (i : Int) : CDivW i (m : Int) := wide_div (b := 60) (by omega) (by simpa using h2) (by decide) (by decide)
theorem ok_taken {f : Addr} {fd : FuncData} (F : FnP K "_law_taken" s__law_taken f fd) (B : Blt mg) : FnOk P w K mg base CX 1 f fd ["row", "many"] (spTaken K) := by
  refine F.ok (CX := CX) sc__law_taken (fun vs H Q E h => ?_) (fun cdv A outer s H vs Q E hr h => ?_)
  · obtain ⟨r, a, ns, i, sd, rs, many, rfl, _⟩ := h
    rfl
  · obtain ⟨r, a, ns, i, sd, rs, many, rfl, hr0, src, i0, s0, s1, m1, m2, q⟩ := h
    refine ⟨_, (pss_cons (ps_if (pt_cmpR op_gt (pe_ix ix_list (pv 0) pe_int (fun _ _ => rfl)) pe_int (nomark _)) (pss_cons (ps_set (i := 2) sc__law_taken.nd rfl (Or.inl rfl) (pe_op op_mod (pe_callTy call_int1 (by rfl) B.int (by decide +kernel) (pa_cons (pe_ix ix_list (pv 0) pe_int (fun _ _ => rfl)) pa_nil)) (pv 1)))
    (pss_cons (ps_asg (pe_op op_fdivW (pe_ix ix_list (pv 0) pe_int (fun _ _ => rfl)) (pv 1)) (pg_sub (pv 0) pe_int set_list))
    (pss_one (ps_ret (pv 2))))) pss_nil)
    (pss_cons (ps_asg (pe_op op_add (pe_ix ix_list (pv 0) pe_int (fun _ _ => rfl)) pe_int) (pg_sub (pv 0) pe_int set_list))
    (pss_cons (ps_if (pt_cmpR op_gt (pe_ix ix_list (pv 0) pe_int (fun _ _ => rfl)) (pe_callB call_len_seq (by rfl) B.len (by decide +kernel) (pa_cons (pe_ix ix_list (pv 0) pe_int (fun _ _ => rfl)) pa_nil)) (nomark _)) (pss_cons (ps_asg (pe_op op_mod (pe_callTy call_int1 (by rfl) B.int (by decide +kernel) (pa_cons (pe_op op_add (pe_op op_mul (pe_ix ix_list (pv 0) pe_int (fun _ _ => rfl)) pe_int) pe_int) pa_nil)) pe_int) (pg_sub (pv 0) pe_int set_list))
    (pss_one (ps_ret (pe_op op_mod (pe_callTy call_int1 (by rfl) B.int (by decide +kernel) (pa_cons (pe_op op_fdivW (pe_ix ix_list (pv 0) pe_int (fun _ _ => rfl)) pe_int) pa_nil)) (pv 1))))) pss_nil)
    (pss_cons (ps_set (i := 3) sc__law_taken.nd rfl (Or.inl rfl) (pe_ix ix_list (pe_ix ix_list (pv 0) pe_int (fun _ _ => rfl)) (pe_op op_sub (pe_ix ix_list (pv 0) pe_int (fun _ _ => rfl)) pe_int) (fun _ _ => rfl)))
    (pss_cons (ps_asg (pe_op op_mod (pe_callTy call_int1 (by rfl) B.int (by decide +kernel) (pa_cons (pe_op op_add (pe_op op_add (pe_op op_mul (pe_ix ix_list (pv 0) pe_int (fun _ _ => rfl)) pe_int) (pv 3)) pe_int) pa_nil)) pe_int) (pg_sub (pv 0) pe_int set_list))
    (pss_cons (ps_if (pt_cmpR op_ge (pv 3) (pe_op op_pow pe_int pe_int) (nomark _)) (pss_one (ps_asg (pe_op op_fdivW (pv 3) (pv 1)) (pg_sub (pv 0) pe_int set_list))) pss_nil)
    (pss_one (ps_ret (pe_op op_mod (pe_callTy call_int1 (by rfl) B.int (by decide +kernel) (pa_cons (pv 3) pa_nil)) (pv 1)))))))))), ?_⟩
    have rd : ∀ {G : Hp} {xs : List V}, G r = some (.lst xs) → SqL K G r xs := fun h => SqL.of h
    refine ⟨.ref r, rfl, r, _, _, .int rs, rfl, rfl, rd hr0, atI_nat (j := 3) rfl, _, _, rfl, rfl, _, rfl, ite2 (fun _ => ?_) (fun _ => ?_)⟩
    · -- a great cell's digits
      obtain ⟨x, ex, lx⟩ := modN (i := rs) m1
      refine ⟨.ref r, rfl, r, _, _, .int rs, rfl, rfl, rd hr0, atI_nat (j := 3) rfl, .inl ⟨_, rfl, .int many, rfl, _, _, rfl, rfl, by omega, ?_⟩⟩
      dsimp only
      rw [ex]
      refine ⟨.ref r, rfl, r, _, _, .int rs, rfl, rfl, rd hr0, atI_nat (j := 3) rfl, .int many, rfl, _, _, rfl, rfl, divOk m1 m2 rs, .ref r, rfl, r, _, _, 3, rfl, rfl, hr0, rfl, iV x, rfl, ?_⟩
      exact q i sd (rs / (many : Int)) x i0 s0 s1 lx
    · refine ⟨.ref r, rfl, r, _, _, .int i, rfl, rfl, rd hr0, atI_nat (j := 1) rfl, _, _, rfl, rfl, .ref r, rfl, r, _, _, 1, rfl, rfl, hr0, rfl, ?_⟩
      have h1 : upd H r (.lst ((rowV a i sd rs).set 1 (.int (i + 1)))) r = some (.lst (rowV a (i + 1) sd rs)) := upd_same
      have src1 : Src K r a ns (upd H r (.lst ((rowV a i sd rs).set 1 (.int (i + 1))))) := src.row
      generalize hG : upd H r (.lst ((rowV a i sd rs).set 1 (.int (i + 1)))) = G at h1 src1
      have up : ∀ o, upd G r o = upd H r o := fun o => by rw [← hG, upd_upd]
      refine ⟨.ref r, rfl, r, _, _, .int (i + 1), rfl, rfl, rd h1, atI_nat (j := 1) rfl, .ref r, rfl, r, _, _, .ref a, rfl, rfl, rd h1, atI_nat (j := 0) rfl, a, _, rfl, .inl src1.sq, _, _, rfl, rfl, _, rfl, ite2 (fun e => ?_) (fun e => ?_)⟩
      · -- the script is done
        refine ⟨.ref r, rfl, r, _, _, .int sd, rfl, rfl, rd h1, atI_nat (j := 2) rfl, _, _, rfl, rfl, .inl ⟨by omega, by omega⟩, _, _, rfl, rfl, .inl ⟨_, rfl, _, _, rfl, rfl, (by show (0 : Int) < 2147483647; decide), .ref r, rfl, r, _, _, 2, rfl, rfl, h1, rfl, ?_⟩⟩
        have b := modM (sd * 48271 + 11)
        dsimp only
        rw [up]
        have h2 : upd H r (.lst ((rowV a (i + 1) sd rs).set 2 (.int ((sd * 48271 + 11) % 2147483647)))) r = some (.lst (rowV a (i + 1) ((sd * 48271 + 11) % 2147483647) rs)) := upd_same
        obtain ⟨x, ex, lx⟩ := modN (i := (sd * 48271 + 11) % 2147483647 / 7) m1
        refine ⟨.ref r, rfl, r, _, _, _, rfl, rfl, rd h2, atI_nat (j := 2) rfl, _, _, rfl, rfl, ⟨by decide, by decide⟩, .inl ⟨_, rfl, .int many, rfl, _, _, rfl, rfl, by omega, ?_⟩⟩
        dsimp only
        rw [ex]
        exact q (i + 1) _ rs x (by omega) b.1 b.2 lx
      · -- the next cell
        have hlt : i < ns.length := by
          have : ¬ (((ns.map V.int).length : Int) < i + 1) := fun z => e (decide_eq_true z)
          rw [List.length_map] at this
          omega
        obtain ⟨j, rfl⟩ : ∃ j : Nat, i = j := ⟨i.toNat, by omega⟩
        have hj : j < ns.length := by omega
        have g : (ns.map V.int)[j]? = some (.int ns[j]) := by rw [List.getElem?_map, List.getElem?_eq_getElem hj] <;> rfl
        have ga : atI (ns.map V.int) ((j : Int) + 1 - 1) = some (.int ns[j]) := by
          rw [show (j : Int) + 1 - 1 = (j : Int) by omega]
          exact atI_nat g
        refine ⟨.ref r, rfl, r, _, _, .ref a, rfl, rfl, rd h1, atI_nat (j := 0) rfl, .ref r, rfl, r, _, _, .int ((j : Int) + 1), rfl, rfl, rd h1, atI_nat (j := 1) rfl, _, _, rfl, rfl, a, _, _, .int ns[j], rfl, rfl, src1.sq, ga, ?_⟩
        generalize ns[j] = z
        refine ⟨.ref r, rfl, r, _, _, .int sd, rfl, rfl, rd h1, atI_nat (j := 2) rfl, _, _, rfl, rfl, .inl ⟨by omega, by omega⟩, .int z, rfl, _, _, rfl, rfl, _, _, rfl, rfl, .inl ⟨_, rfl, _, _, rfl, rfl, (by show (0 : Int) < 2147483647; decide), .ref r, rfl, r, _, _, 2, rfl, rfl, h1, rfl, ?_⟩⟩
        have b := modM (sd * 48271 + z + 11)
        dsimp only
        rw [up]
        have h2 : upd H r (.lst ((rowV a ((j : Int) + 1) sd rs).set 2 (.int ((sd * 48271 + z + 11) % 2147483647)))) r = some (.lst (rowV a ((j : Int) + 1) ((sd * 48271 + z + 11) % 2147483647) rs)) := upd_same
        obtain ⟨x, ex, lx⟩ := modN (i := z) m1
        refine ⟨.int z, rfl, _, _, rfl, rfl, ⟨by decide, by decide, by decide⟩, _, _, rfl, rfl, _, rfl, ite2 (fun _ => ?_) (fun _ => ?_)⟩
        · refine ⟨.int z, rfl, .int many, rfl, _, _, rfl, rfl, divOk m1 m2 z, .ref r, rfl, r, _, _, 3, rfl, rfl, h2, rfl, ?_⟩
          refine ⟨.int z, rfl, .inl ⟨_, rfl, .int many, rfl, _, _, rfl, rfl, by omega, ?_⟩⟩
          dsimp only
          rw [ex, upd_upd]
          exact q ((j : Int) + 1) _ (z / (many : Int)) x (by omega) b.1 b.2 lx
        · refine ⟨.int z, rfl, .inl ⟨_, rfl, .int many, rfl, _, _, rfl, rfl, by omega, ?_⟩⟩
          dsimp only
          rw [ex]
          exact q ((j : Int) + 1) _ rs x (by omega) b.1 b.2 lx
end
end K01

set_option maxHeartbeats 4000000
namespace K01
open PySem PySem.Spec PyProof.Rows L2 Hd Evl
/-! ### lists of tuples of cells -/
/-- each value a tuple of these cells -/
def RefsTo (H : Hp) : List V → List (List Nat) → Prop := Paired fun v l => ∃ p, v = .ref p ∧ H p = some (.tup (l.map iV))
theorem RefsTo.ex {H H' : Hp} (e : Ex H H') : ∀ {vs : List V} {ls : List (List Nat)}, RefsTo H vs ls → RefsTo H' vs ls
  | _, _, .nil => .nil
  | _, _, .cons ⟨p, h1, h2⟩ t => .cons ⟨p, h1, e _ _ h2⟩ (RefsTo.ex e t)
theorem RefsTo.app {H : Hp} : ∀ {vs us : List V} {ls ms : List (List Nat)}, RefsTo H vs ls → RefsTo H us ms → RefsTo H (vs ++ us) (ls ++ ms)
  | _, _, _, _, .nil, s => s
  | _, _, _, _, .cons h t, s => .cons h (RefsTo.app t s)
theorem RefsTo.len {H : Hp} {vs : List V} {ls : List (List Nat)} (h : RefsTo H vs ls) : vs.length = ls.length := Paired.length h
theorem RefsTo.at_ {H : Hp} : ∀ {vs : List V} {ls : List (List Nat)} {i : Nat} {v : V}, RefsTo H vs ls → vs[i]? = some v → ∃ p l, ls[i]? = some l ∧ v = .ref p ∧ H p = some (.tup (l.map iV))
  | _, _, _, _, .nil, e => by simp at e
  | _, _, 0, _, .cons ⟨p, h1, h2⟩ _, e => by
    have e' := Option.some.inj (by simpa using e)
    exact ⟨p, _, rfl, by rw [← e', h1], h2⟩
  | _, _, i + 1, v, .cons _ t, e => by
    obtain ⟨p, l, h⟩ := RefsTo.at_ (i := i) t (by simpa using e)
    exact ⟨p, l, by simpa using h.1, h.2⟩
theorem RefsTo.at2 {H : Hp} {vs : List V} {ls : List (List Nat)} {i : Nat} {l : List Nat} (h : RefsTo H vs ls) (e : ls[i]? = some l) : ∃ p, vs[i]? = some (.ref p) ∧ H p = some (.tup (l.map iV)) := by
  have hi : i < vs.length := by rw [h.len]; exact (List.getElem?_eq_some_iff.mp e).1
  obtain ⟨p, l', h1, h2, h3⟩ := h.at_ (List.getElem?_eq_getElem hi)
  rw [e] at h1
  cases h1
  exact ⟨p, by rw [List.getElem?_eq_getElem hi, h2], h3⟩
/-! ### tuples of ints as data -/
abbrev iD (c : Nat) : PyData := .int (c : Int)
theorem dp_ints {K : PySem.W.Frag} {H : Hp} : ∀ l : List Nat, DpAll K H (l.map iV) (l.map iD)
  | [] => .nil
  | c :: r => .cons (.int _) (dp_ints r)
theorem lay_ints : ∀ l : List Nat, PyData.canLayAll0 (l.map iD) = true
  | [] => rfl
  | c :: r => by
    show (PyData.canLay0 (PyData.int (c : Int)) && PyData.canLayAll0 (r.map iD)) = true
    rw [lay_ints r] <;> rfl
theorem depth_ints : ∀ l : List Nat, PyData.depthAll (l.map iD) = 0
  | [] => rfl
  | c :: r => by
    show max (PyData.depth (PyData.int (c : Int))) (PyData.depthAll (r.map iD)) = 0
    rw [depth_ints r] <;> rfl
theorem shaped_ints (l : List Nat) : SeqAt.shaped (.tuple (l.map iD)) = true := by
  show (PyData.canLayAll0 (l.map iD) && decide (PyData.depthAll (l.map iD) + 1 ≤ 64)) = true
  rw [lay_ints, depth_ints] <;> rfl
theorem eqv_nil (l : List Nat) : PyData.eqv (.tuple (l.map iD)) (.tuple []) = l.isEmpty := by
  cases l <;> rfl
theorem atI_back {l : List Nat} (h : l.isEmpty = false) : atI (l.map iV) (-1) = some (iV (lastN l)) := by
  cases l with
  | nil => cases h
  | cons x r =>
    have e : (x :: r).map iV = ((x :: r).dropLast.map iV) ++ [iV ((x :: r).getLast (List.cons_ne_nil x r))] := by
      rw [← List.map_singleton, ← List.map_append, List.dropLast_concat_getLast]
    have e2 : lastN (x :: r) = (x :: r).getLast (List.cons_ne_nil x r) := by
      unfold lastN
      rw [List.getLast?_eq_some_getLast (List.cons_ne_nil x r)] <;> rfl
    rw [e, e2]
    exact atI_last _ _
theorem filter_succ {p : Nat → Bool} {i : Nat} : (List.range (i + 1)).filter p = (List.range i).filter p ++ (if p i = true then [i] else []) := by
  rw [List.range_succ, List.filter_append]
  by_cases h : p i = true
  · rw [if_pos h, List.filter_cons, if_pos h] <;> rfl
  · rw [if_neg h, List.filter_cons, if_neg h] <;> rfl
section
variable {CX : CXT} {P : Program} {w : World} {K : PySem.W.Frag} {mg : Str → Option Value} {base : Heap}
/-- a new list of tuples -/
def RetSets (ls : List (List Nat)) (H : Hp) (Q : VK) : Prop := ∀ p vs H2, H p = none → Ex H H2 → H2 p = some (.lst vs) → RefsTo H2 vs ls → Q (.ref p) H2
def spSets : Sp := fun vs H Q _ => ∃ n k : Nat, vs = [iV n, iV k] ∧ n ≤ 12 ∧ k ≤ n ∧ RetSets (setsN n k 0) H Q
theorem ok_sets {f : Addr} {fd : FuncData} (F : FnP K "_law_sets" s__law_sets f fd) (B : Blt mg) : FnOk P w K mg base CX 1 f fd ["cells", "many"] spSets := by
  refine F.ok (CX := CX) sc__law_sets (fun vs H Q E h => ?_) (fun cdv A outer s H vs Q E hr h => ?_)
  · obtain ⟨n, k, rfl, _⟩ := h
    rfl
  · obtain ⟨n, k, rfl, hn, hk, q⟩ := h
    have hu : (A.deeper (envOfC "_law_sets" (defScope s__law_sets) s.heap.objs.size f cdv)).units + 64 < cLine := by have := hr.un; omega
    refine ⟨_, (pss_cons (ps_set (i := 2) sc__law_sets.nd rfl (Or.inl rfl) (pe_lst (pa_cons (pe_tup pa_nil) pa_nil)))
    (pss_cons (ps_for (passes_of rfl) rfl (pi_range1 (by rfl) B.range (pa_cons (pv 1) pa_nil)) (pg_name (i := 3) sc__law_sets.nd rfl (Or.inl rfl)) (pss_cons (ps_set (i := 4) sc__law_sets.nd rfl (Or.inl rfl) (pe_lst pa_nil))
    (pss_cons (ps_for (passes_of rfl) rfl (pi_list (pv 2)) (pg_name (i := 5) sc__law_sets.nd rfl (Or.inr rfl)) (pss_one (ps_set (i := 4) sc__law_sets.nd rfl (Or.inl rfl) (pe_op op_cat (pv 4)
      (pe_lc (own := [("cell", 6)]) (g := gName 6) (by rfl) sc__law_sets.nd (pi_range1 (by rfl) B.range (pa_cons (pv 0) pa_nil)) (blkOk_by (own := [("cell", 6)]) (N := n__law_sets) (sc := defScope s__law_sets) (by decide +kernel)) (fun _ _ _ _ _ => pg_name (i := 6) sc__law_sets.nd rfl (Or.inl rfl))
        (fun _ _ _ _ _ => pts_one (PW.pt (pw_or (pt_cmpR (op_eqD hu : OpR _ _ (rEqD K)) (pv 5) (pe_tup pa_nil) (nomark _)) (pw_or1 (pt_cmpR op_gt (pv 6) (pe_ix (ix_tup : IxR _ (rIxT K)) (pv 5) (pe_un un_neg pe_int) (fun _ _ => rfl)) (nomark _)))))) (fun _ _ _ _ _ => (pe_op (op_catA : OpR _ _ (rCatA K)) (pv 5) (pe_tup (pa_cons (pv 6) pa_nil)))))))))
    (pss_one (ps_set (i := 2) sc__law_sets.nd rfl (Or.inl rfl) (pv 4))))))
    (pss_one (ps_ret (pv 2))))), ?_⟩
    refine ⟨Nat.zero_le _, fun p0 n0 => ⟨by show 1 ≤ sizeLine; decide, fun l0 nl0 => ?_⟩⟩
    have n0l : p0 ≠ l0 := fun z => by rw [← z, upd_same] at nl0; cases nl0
    refine ⟨iV k, rfl, (k : Int), rfl, by omega, by omega, ?_⟩
    have e0 : Ex H (upd (upd H p0 (.tup [])) l0 (.lst [.ref p0])) := (Ex.new n0).trans (Ex.new nl0)
    refine for_range (lo := 0) (n := k) (fun t σ G => ∃ (fl : Addr) (vs : List V) (y3 y4 y5 y6 : Option V), σ = [some (iV n), some (iV k), some (.ref fl), y3, y4, y5, y6] ∧ Ex H G ∧ H fl = none ∧ G fl = some (.lst vs) ∧ RefsTo G vs (lawSets n t))
      ⟨l0, [.ref p0], none, none, none, none, rfl, e0, fresh_back (Ex.new n0) nl0, upd_same, .cons ⟨p0, rfl, by rw [upd_ne n0l, upd_same] <;> rfl⟩ .nil⟩ (fun t σ G ht w => ?_) (fun σ G w => ?_)
    · obtain ⟨fl, vs, y3, y4, y5, y6, rfl, ex, nf, ef, rt⟩ := w
      refine ⟨Nat.zero_le _, fun g0 ng0 => ?_⟩
      have ex1 : Ex G (upd G g0 (.lst [])) := Ex.new ng0
      refine ⟨.ref fl, rfl, fl, rfl, ⟨vs, SqL.of (ex1 _ _ ef)⟩, for_list (xs := vs) (fun i σ G' => ∃ (gl : Addr) (us : List V) (y5 y6 : Option V), σ = [some (iV n), some (iV k), some (.ref fl), some (.int ((0 : Int) + (t : Int))), some (.ref gl), y5, y6] ∧ Ex G G' ∧ G gl = none ∧ G' gl = some (.lst us) ∧ RefsTo G' us (((lawSets n t).take i).flatMap (extN n)))
        ⟨g0, [], y5, y6, rfl, ex1, ng0, upd_same, .nil⟩ (fun i σ G' _ w => ?_) (fun i x σ G' hx w => ?_) (fun σ G' w => ?_)⟩
      · obtain ⟨gl, us, y5, y6, _, e1, _⟩ := w
        exact SqL.of (e1 _ _ ef)
      · obtain ⟨gl, us, y5, y6, rfl, e1, ng, eg, ru⟩ := w
        obtain ⟨p, l, hl, rfl, hp⟩ := rt.at_ hx
        have hp1 : G' p = some (.tup (l.map iV)) := e1 _ _ hp
        refine ⟨.ref gl, rfl, iV n, rfl, (n : Int), rfl, by omega, by omega, fun D nD => ?_⟩
        have gD : gl ≠ D := ne_of_none eg nD
        refine lc_range (lo := 0) (n := n) (fun i G2 => Ex G' G2 ∧ G' D = none ∧ ∃ ws, G2 D = some (.lst ws) ∧ RefsTo G2 ws (((List.range i).filter (goesOn l)).map fun c => l ++ [c])) ⟨Ex.new nD, nD, [], upd_same, .nil⟩ (fun i2 G2 hi2 w => ?_) (fun G2 w => ?_)
        · obtain ⟨e2, nD', ws, eD, rw'⟩ := w
          have zi : (0 : Int) + (i2 : Int) = (i2 : Int) := by omega
          rw [zi]
          have hp2 : G2 p = some (.tup (l.map iV)) := e2 _ _ hp1
          have hwl : ws.length ≤ 12 := by
            rw [rw'.len, List.length_map]
            have := List.length_filter_le (goesOn l) (List.range i2)
            rw [List.length_range] at this
            omega
          refine ⟨rfl, .ref p, rfl, Nat.zero_le _, fun e0 ne0 => ?_⟩
          have e3 : Ex G2 (upd G2 e0 (.tup [])) := Ex.new ne0
          have hp3 : upd G2 e0 (.tup []) p = some (.tup (l.map iV)) := e3 _ _ hp2
          refine ⟨_, .tuple [], .tup (SqT.of hp3) (dp_ints l), .tup (SqT.of upd_same) .nil, shaped_ints l, rfl, _, rfl, ?_⟩
          rw [eqv_nil]
          -- what is behind a cell that goes on
          have yes : ∀ G3, Ex G2 G3 → goesOn l i2 = true → tOp (rCatA K) (tVar 5) (tTup (tCons (tVar 6) tNil)) [some (iV n), some (iV k), some (.ref fl), some (.int ((0 : Int) + (t : Int))), some (.ref gl), some (.ref p), some (iV i2)] G3
              fun y H4 => ∃ acc, H4 D = some (.lst acc) ∧ acc.length < sizeLine ∧ (Ex G' (upd H4 D (.lst (acc ++ [y]))) ∧ G' D = none ∧ ∃ ws, upd H4 D (.lst (acc ++ [y])) D = some (.lst ws) ∧ RefsTo (upd H4 D (.lst (acc ++ [y]))) ws (((List.range (i2 + 1)).filter (goesOn l)).map fun c => l ++ [c])) := by
            intro G3 e4 hg
            refine ⟨.ref p, rfl, iV i2, rfl, by show 1 ≤ sizeLine; decide, fun tp ntp => ?_⟩
            have e5 : Ex G3 (upd G3 tp (.tup [iV i2])) := Ex.new ntp
            have hp5 : upd G3 tp (.tup [iV i2]) p = some (.tup (l.map iV)) := e5 _ _ (e4 _ _ hp2)
            have ll : l.length ≤ 12 := by
              have hm : l ∈ lawSets n t := List.mem_of_getElem? hl
              rw [lawSets_eq hn (by omega)] at hm
              have := (setsN_asc n t 0 l hm).1
              omega
            have done : ∀ (H4 : Hp) (z : Addr), Ex G3 H4 → H4 z = some (.tup ((l ++ [i2]).map iV)) → ∃ acc, H4 D = some (.lst acc) ∧ acc.length < sizeLine ∧ (Ex G' (upd H4 D (.lst (acc ++ [.ref z]))) ∧ G' D = none ∧ ∃ ws, upd H4 D (.lst (acc ++ [.ref z])) D = some (.lst ws) ∧ RefsTo (upd H4 D (.lst (acc ++ [.ref z]))) ws (((List.range (i2 + 1)).filter (goesOn l)).map fun c => l ++ [c])) := by
              intro H4 z e6 hz
              have eD4 : H4 D = some (.lst ws) := e6 _ _ (e4 _ _ eD)
              have zD : z ≠ D := fun y => by rw [y, eD4] at hz; cases hz
              refine ⟨ws, eD4, by have := sz_lt (n := ws.length) (by omega); exact this, ((e2.trans e4).trans e6).mut nD', nD', _, upd_same, ?_⟩
              rw [filter_succ, if_pos hg, List.map_append]
              refine RefsTo.app ?_ (.cons ⟨z, rfl, by rw [upd_ne zD]; exact hz⟩ .nil)
              have old : ∀ {vs : List V} {ls : List (List Nat)}, RefsTo G2 vs ls → RefsTo (upd H4 D (.lst (ws ++ [.ref z]))) vs ls := fun {vs ls} h => by
                induction h with
                | nil => exact .nil
                | cons h1 _ ih =>
                  obtain ⟨p', a1, a2⟩ := h1
                  have a3 : H4 p' = _ := e6 _ _ (e4 _ _ a2)
                  have pD : p' ≠ D := fun y => by rw [y, eD4] at a3; cases a3
                  exact .cons ⟨p', a1, by rw [upd_ne pD]; exact a3⟩ ih
              exact old rw'
            refine ⟨p, tp, l.map iV, [iV i2], rfl, rfl, SqT.of hp5, SqT.of upd_same, ?_, fun h0 => ?_, fun _ h0 => absurd h0 (by simp), fun _ _ z nz => ?_⟩
            · rw [List.length_map]
              exact Nat.le_of_lt (sz_lt (by simp; omega))
            · have l0 : l = [] := List.map_eq_nil_iff.mp h0
              refine done _ tp e5 ?_
              rw [upd_same, l0] <;> rfl
            · refine done _ z (e5.trans (Ex.new nz)) ?_
              rw [upd_same, List.map_append] <;> rfl
          have no : ∀ G3, Ex G2 G3 → goesOn l i2 = false → Ex G' G3 ∧ G' D = none ∧ ∃ ws, G3 D = some (.lst ws) ∧ RefsTo G3 ws (((List.range (i2 + 1)).filter (goesOn l)).map fun c => l ++ [c]) := by
            intro G3 e4 hg
            refine ⟨e2.trans e4, nD', ws, e4 _ _ eD, ?_⟩
            rw [filter_succ, if_neg (by rw [hg]; decide), List.append_nil]
            exact rw'.ex e4
          cases hl0 : l.isEmpty with
          | true =>
            have hg : goesOn l i2 = true := by unfold goesOn; rw [hl0] <;> rfl
            exact iteT (iteT (yes _ e3 hg))
          | false =>
            refine iteF ⟨iV i2, rfl, .ref p, rfl, 1, rfl, p, l.map iV, -1, iV (lastN l), rfl, rfl, SqT.of hp3, atI_back hl0, _, _, rfl, rfl, _, rfl, ?_⟩
            have hg : goesOn l i2 = decide ((lastN l : Int) < (i2 : Int)) := by
              unfold goesOn
              rw [hl0, Bool.false_or]
              exact decide_eq_decide.mpr (by omega)
            cases hd : decide ((lastN l : Int) < (i2 : Int)) with
            | true => exact iteT (yes _ e3 (by rw [hg, hd]))
            | false => exact iteF (no _ e3 (by rw [hg, hd]))
        · obtain ⟨e2, nD', ws, eD, rw'⟩ := w
          refine ⟨gl, D, us, ws, rfl, rfl, e2 _ _ eg, eD, ?_, fun z nz => ?_⟩
          · have b1 : us.length ≤ (lawSets n (t + 1)).length := by
              rw [ru.len]
              exact flat_take (extN n) (lawSets n t) i
            have b2 : ws.length ≤ 12 := by
              rw [rw'.len, List.length_map]
              have := List.length_filter_le (goesOn l) (List.range n)
              rw [List.length_range] at this
              omega
            rw [lawSets_len hn (by omega)] at b1
            have := nck_le hn (show t + 1 ≤ 12 by omega)
            exact Nat.le_of_lt (sz_lt (by omega))
          · have ez : Ex G2 (upd G2 z (.lst (us ++ ws))) := Ex.new nz
            refine ⟨z, us ++ ws, some (.ref p), y6, rfl, (e1.trans e2).trans ez, fresh_back (e1.trans e2) nz, upd_same, ?_⟩
            have dr : (lawSets n t).take (i + 1) = (lawSets n t).take i ++ [l] := by rw [List.take_succ, hl] <;> rfl
            rw [dr, List.flatMap_append]
            refine RefsTo.app ((ru.ex e2).ex ez) ?_
            have : [l].flatMap (extN n) = extN n l := by simp
            rw [this]
            exact rw'.ex ez
      · obtain ⟨gl, us, y5, y6, rfl, e1, ng, eg, ru⟩ := w
        rw [rt.len, List.take_of_length_le (Nat.le_refl _)] at ru
        exact ⟨.ref gl, rfl, gl, us, some (.int ((0 : Int) + (t : Int))), some (.ref gl), y5, y6, rfl, ex.trans e1, fresh_back ex ng, eg, ru⟩
    · obtain ⟨fl, vs, y3, y4, y5, y6, rfl, ex, nf, ef, rt⟩ := w
      rw [lawSets_eq hn (by omega)] at rt
      exact ⟨.ref fl, rfl, q fl vs G nf ex ef rt⟩
end
end K01

set_option maxHeartbeats 4000000
namespace K01
open PySem PySem.Spec PyProof.Rows L2 Hd Evl
/-! ### data -/
def dk : PyData → String
  | .none => "NoneType"
  | .bool _ => "bool"
  | .int _ => "int"
  | .str _ => "str"
  | .list _ => "list"
  | .tuple _ => "tuple"
  | .dict _ => "dict"
section
variable {K : PySem.W.Frag} {H H' : Hp}
theorem sqL_ty {a : Addr} {xs : List V} (h : SqL K H a xs) : TyX K H (.ref a) (.type "list") := by
  rcases h with (h | ⟨o, h⟩) | ⟨o, its, n, h1, h2, _⟩
  · exact .base (.lst h)
  · exact .base (.frz h)
  · exact .kList h1 h2
theorem sqT_ty {a : Addr} {xs : List V} (h : SqT K H a xs) : TyX K H (.ref a) (.type "tuple") := by
  rcases h with (h | ⟨o, h⟩) | ⟨o, its, n, h1, h2, _⟩
  · exact .base (.tup h)
  · exact .fTuple h
  · exact .kTuple h1 h2
theorem dp_ty {v : V} {d : PyData} (h : Dp K H v d) : TyX K H v (.type (dk d)) := by
  cases h with
  | non => exact .base .non
  | bl b => exact .base (.bl b)
  | int i => exact .base (.int i)
  | str x => exact .base (.str x)
  | lst h _ => exact sqL_ty h
  | tup h _ => exact sqT_ty h
mutual
theorem dp_ex (e : Ex H H') : ∀ (d : PyData) (v : V), Dp K H v d → Dp K H' v d
  | .none, _, h => by cases h; exact .non
  | .bool b, _, h => by cases h; exact .bl b
  | .int i, _, h => by cases h; exact .int i
  | .str x, _, h => by cases h; exact .str x
  | .list ds, _, h => by
    cases h with
    | lst h1 h2 => exact .lst (ex_l e h1) (dpAll_ex e ds _ h2)
  | .tuple ds, _, h => by
    cases h with
    | tup h1 h2 => exact .tup (ex_t e h1) (dpAll_ex e ds _ h2)
  | .dict _, _, h => by cases h
theorem dpAll_ex (e : Ex H H') : ∀ (ds : List PyData) (vs : List V), DpAll K H vs ds → DpAll K H' vs ds
  | [], _, h => by cases h; exact .nil
  | d :: ds, _, h => by
    cases h with
    | cons h1 h2 => exact .cons (dp_ex e d _ h1) (dpAll_ex e ds _ h2)
end
theorem dpAll_len : ∀ {ds : List PyData} {vs : List V}, DpAll K H vs ds → vs.length = ds.length
  | [], _, h => by cases h; rfl
  | d :: ds, _, h => by
    cases h with
    | cons h1 h2 => rw [List.length_cons, List.length_cons, dpAll_len h2]
theorem dpAll_at : ∀ {ds : List PyData} {vs : List V} {i : Nat} {d : PyData}, DpAll K H vs ds → ds[i]? = some d → ∃ v, vs[i]? = some v ∧ Dp K H v d
  | [], _, i, d, _, e => by simp at e
  | d0 :: ds, _, 0, d, h, e => by
    cases h with
    | cons h1 h2 =>
      have e' := Option.some.inj (by simpa using e)
      exact ⟨_, rfl, e' ▸ h1⟩
  | d0 :: ds, _, i + 1, d, h, e => by
    cases h with
    | cons h1 h2 =>
      obtain ⟨v, a, b⟩ := dpAll_at (i := i) h2 (by simpa using e)
      exact ⟨v, by simpa using a, b⟩
theorem depth_at : ∀ {ds : List PyData} {i : Nat} {d : PyData}, ds[i]? = some d → PyData.depth d ≤ PyData.depthAll ds
  | [], i, d, e => by simp at e
  | d0 :: ds, 0, d, e => by
    have e' := Option.some.inj (by simpa using e)
    rw [← e']
    exact Nat.le_max_left _ _
  | d0 :: ds, i + 1, d, e => Nat.le_trans (depth_at (i := i) (by simpa using e)) (Nat.le_max_right _ _)
end
mutual
/-- no list longer than this -/
def wideD : PyData → Nat
  | .list xs | .tuple xs => max xs.length (wideAll xs)
  | _ => 0
def wideAll : List PyData → Nat
  | [] => 0
  | x :: xs => max (wideD x) (wideAll xs)
end
theorem wide_at : ∀ {ds : List PyData} {i : Nat} {d : PyData}, ds[i]? = some d → wideD d ≤ wideAll ds
  | [], i, d, e => by simp at e
  | d0 :: ds, 0, d, e => by
    have e' := Option.some.inj (by simpa using e)
    rw [← e']
    exact Nat.le_max_left _ _
  | d0 :: ds, i + 1, d, e => Nat.le_trans (wide_at (i := i) (by simpa using e)) (Nat.le_max_right _ _)
theorem rIx_of {K : PySem.W.Frag} {H : Hp} {a : Addr} {xs : List V} {i : Nat} {x v : V} {Q : VK} (ev : v = .ref a) (h : SqL K H a xs ∨ SqT K H a xs) (hx : xs[i]? = some x) (q : Q x H) : rIx K v (.int (i : Int)) H Q := by
  rcases h with h | h
  · exact .inl ⟨a, xs, i, x, ev, rfl, h, atI_nat hx, q⟩
  · exact .inr (.inl ⟨a, xs, i, x, ev, rfl, h, atI_nat hx, q⟩)
theorem kit2 {K : PySem.W.Frag} (s : String) (hs : s = "NoneType" ∨ s = "bool" ∨ s = "int" ∨ s = "str" ∨ s = "list" ∨ s = "tuple") : PySem.W.kitAny K (.type s) [.type "tuple", .type "list"] = some (s == "tuple" || s == "list") := by
  rcases hs with rfl | rfl | rfl | rfl | rfl | rfl
  all_goals first
    | exact kitAny_cons (b := false) (kit_ty (by decide +kernel)) (fun _ => kitAny_cons (b := false) (kit_ty (by decide +kernel)) (fun _ => rfl) (fun z => by cases z)) (fun z => by cases z)
    | exact kitAny_cons (b := false) (kit_ty (by decide +kernel)) (fun _ => kitAny_cons (b := true) (kit_ty (by decide +kernel)) (fun z => by cases z) (fun _ => rfl)) (fun z => by cases z)
    | exact kitAny_cons (b := true) (kit_ty (by decide +kernel)) (fun z => by cases z) (fun _ => rfl)
theorem dk_of {K : PySem.W.Frag} {H : Hp} {v : V} {d : PyData} (h : Dp K H v d) : dk d = "NoneType" ∨ dk d = "bool" ∨ dk d = "int" ∨ dk d = "str" ∨ dk d = "list" ∨ dk d = "tuple" := by
  cases h <;> simp [dk]
theorem dk_is {K : PySem.W.Frag} {H : Hp} {v : V} {d : PyData} (h : Dp K H v d) (T : String) (hT : T = "int" ∨ T = "bool" ∨ T = "str" ∨ T = "list") : kitB (dk d) T = some (isK (dk d) T) := by
  rcases hT with rfl | rfl | rfl | rfl <;> rcases dk_of h with e | e | e | e | e | e <;> rw [e] <;> decide +kernel
section
variable {CX : CXT} {P : Program} {w : World} {K : PySem.W.Frag} {mg : Str → Option Value} {base : Heap}
theorem FnOk.never {f : Addr} {fd : FuncData} {ps : List Str} : FnOk P w K mg base CX 0 f fd ps (fun _ _ _ _ => False) := ⟨fun _ _ _ _ h => h.elim, fun _ _ _ _ _ _ _ _ _ _ _ _ _ h => h.elim⟩
structure AlikeP (K : PySem.W.Frag) (n : Nat) (vs : List V) (H : Hp) (Q : VK) (E : XK) : Prop where
  go : ∃ v u d, vs = [v, u] ∧ Dp K H v d ∧ Dp K H u d ∧ PyData.depth d ≤ n ∧ wideD d ≤ 100000 ∧ RetV (.bl true) H Q
/-- the same data, not deeper than n - 1 -/
def spAlike (K : PySem.W.Frag) : Nat → Sp
  | 0 => fun _ _ _ _ => False
  | n + 1 => fun vs H Q E => AlikeP K n vs H Q E
theorem ok_alike {f : Addr} {fd : FuncData} (F : FnP K "_law_alike" s__law_alike f fd) (B : Blt mg) (m : mg "_law_alike" = some (.ref f)) (b : Binds K fd ["found", "due"] []) : ∀ n, FnOk P w K mg base CX0 n f fd ["found", "due"] (spAlike K n)
  | 0 => FnOk.never
  | n + 1 => by
    have G := ok_alike F B m b n
    refine F.ok (CX := CX0) sc__law_alike (fun vs H Q E h => ?_) (fun cdv A outer s H vs Q E hr h => ?_)
    · obtain ⟨v, u, d, rfl, _⟩ := h
      rfl
    · obtain ⟨v, u, d, rfl, hv, hu, hd, hwd, q⟩ := h
      have un : (A.deeper (envOfC "_law_alike" (defScope s__law_alike) s.heap.objs.size f cdv)).units + 64 < cLine := by have := hr.un; omega
      refine ⟨_, (pss_cons (ps_if (pt_val (pe_callB call_isiT (by rfl) B.isinstance (by decide +kernel) (pa_cons (pv 1) (pa_cons (pe_tup (pa_cons (pe_ty "tuple" (by rfl) B.tuple (by decide +kernel)) (pa_cons (pe_ty "list" (by rfl) B.list (by decide +kernel)) pa_nil))) pa_nil))))
        (pss_cons (ps_if (PW.pt (pw_or (pt_not (pt_val (pe_callB call_isiT (by rfl) B.isinstance (by decide +kernel) (pa_cons (pv 0) (pa_cons (pe_tup (pa_cons (pe_ty "tuple" (by rfl) B.tuple (by decide +kernel)) (pa_cons (pe_ty "list" (by rfl) B.list (by decide +kernel)) pa_nil))) pa_nil))))) (pw_or1 (pt_cmpR op_ne (pe_callB call_isS (by rfl) B.isinstance (by decide +kernel) (pa_cons (pv 0) (pa_cons (pe_ty "list" (by rfl) B.list (by decide +kernel)) pa_nil))) (pe_callB call_isS (by rfl) B.isinstance (by decide +kernel) (pa_cons (pv 1) (pa_cons (pe_ty "list" (by rfl) B.list (by decide +kernel)) pa_nil))) (nomark _))))) (pss_one (ps_ret pe_bl)) pss_nil)
        (pss_cons (ps_if (pt_cmpR op_ne (pe_callB call_len_seq (by rfl) B.len (by decide +kernel) (pa_cons (pv 0) pa_nil)) (pe_callB call_len_seq (by rfl) B.len (by decide +kernel) (pa_cons (pv 1) pa_nil)) (nomark _)) (pss_one (ps_ret pe_bl)) pss_nil)
        (pss_one (ps_ret (pe_cmpR (op_eqD un) (pe_lc (own := [("k", 2)]) (g := gName 2) (by rfl) sc__law_alike.nd (pi_range1 (by rfl) B.range (pa_cons (pe_callB call_len_seq (by rfl) B.len (by decide +kernel) (pa_cons (pv 1) pa_nil)) pa_nil)) (blkOk_by (own := [("k", 2)]) (N := n__law_alike) (sc := defScope s__law_alike) (by decide +kernel)) (fun _ _ _ _ _ => pg_name (i := 2) sc__law_alike.nd rfl (Or.inl rfl))
          (fun _ _ _ _ _ => pts_one (pt_not (pt_val (pe_call G hr (by rfl) m F.kp b .nil pass0 (pa_cons (pe_ix (ix_seq : IxR _ (rIx K)) (pv 0) (pv 2) (fun _ _ => rfl)) (pa_cons (pe_ix (ix_seq : IxR _ (rIx K)) (pv 1) (pv 2) (fun _ _ => rfl)) pa_nil)))))) (fun _ _ _ _ _ => (pv 2))) (pe_lst pa_nil) (nomark _)))))) pss_nil)
        (pss_cons (ps_if (PW.pt (pw_or (pt_cmpR op_isN (pv 1) pe_non (nomark _)) (pw_or1 (pt_val (pe_callB call_isS (by rfl) B.isinstance (by decide +kernel) (pa_cons (pv 1) (pa_cons (pe_ty "str" (by rfl) B.str (by decide +kernel)) pa_nil))))))) (pss_one (ps_ret (pe_and (pe_cmpR op_eq (pv 0) (pv 1) (nomark _)) (pe_one (pe_cmpR op_eq (pe_callB call_isS (by rfl) B.isinstance (by decide +kernel) (pa_cons (pv 0) (pa_cons (pe_ty "str" (by rfl) B.str (by decide +kernel)) pa_nil))) (pe_callB call_isS (by rfl) B.isinstance (by decide +kernel) (pa_cons (pv 1) (pa_cons (pe_ty "str" (by rfl) B.str (by decide +kernel)) pa_nil))) (nomark _)))))) pss_nil)
        (pss_one (ps_ret (pe_and (pe_callB call_isS (by rfl) B.isinstance (by decide +kernel) (pa_cons (pv 0) (pa_cons (pe_ty "int" (by rfl) B.int (by decide +kernel)) pa_nil))) (pe_and (pe_cmpR op_eq (pe_callB call_isS (by rfl) B.isinstance (by decide +kernel) (pa_cons (pv 0) (pa_cons (pe_ty "bool" (by rfl) B.bool (by decide +kernel)) pa_nil))) (pe_callB call_isS (by rfl) B.isinstance (by decide +kernel) (pa_cons (pv 1) (pa_cons (pe_ty "bool" (by rfl) B.bool (by decide +kernel)) pa_nil))) (nomark _)) (pe_one (pe_cmpR op_eq (pv 0) (pv 1) (nomark _))))))))), ?_⟩
      -- isinstance(due, (tuple, list))
      refine ⟨u, rfl, by show 2 ≤ sizeLine; decide, fun t1 n1 => ?_⟩
      have e1 : Ex H (upd H t1 (.tup [.ty "tuple", .ty "list"])) := Ex.new n1
      refine ⟨u, t1, _, .type (dk d), [.type "tuple", .type "list"], _, rfl, upd_same, .cons (.ty _) (.cons (.ty _) .nil), dp_ty (dp_ex e1 d u hu), kit2 (dk d) (dk_of hu), _, rfl, ?_⟩
      generalize upd H t1 (.tup [.ty "tuple", .ty "list"]) = H1 at e1
      have hv1 := dp_ex e1 d v hv
      have hu1 := dp_ex e1 d u hu
      -- flat ones
      have word : ∀ x : V, v = x → u = x → scal x x = true → tAndV (tOp rEq (tVar 0) (tVar 1)) (tOp rEq (tCB (rIsS K) (tCons (tVar 0) (tCons (tC (.ty "str")) tNil))) (tCB (rIsS K) (tCons (tVar 1) (tCons (tC (.ty "str")) tNil)))) [some v, some u, none] H1 Q := by
        intro x ev eu hs
        refine ⟨v, rfl, u, rfl, by rw [ev, eu]; exact hs, _, rfl, ?_⟩
        rw [decide_eq_true (ev.trans eu.symm)]
        have hbk := dk_is hv "str" (by simp)
        generalize isK (dk d) "str" = bk at hbk
        refine iteT ⟨v, rfl, v, dk d, "str", bk, rfl, dp_ty hv1, hbk, u, rfl, u, dk d, "str", bk, rfl, dp_ty hu1, hbk, rfl, ?_⟩
        rw [decide_eq_true rfl]
        exact q H1 e1
      have num : ∀ x : V, v = x → u = x → scal x x = true → kitB (dk d) "int" = some true → tAndV (tCB (rIsS K) (tCons (tVar 0) (tCons (tC (.ty "int")) tNil))) (tAndV (tOp rEq (tCB (rIsS K) (tCons (tVar 0) (tCons (tC (.ty "bool")) tNil))) (tCB (rIsS K) (tCons (tVar 1) (tCons (tC (.ty "bool")) tNil)))) (tOp rEq (tVar 0) (tVar 1))) [some v, some u, none] H1 Q := by
        intro x ev eu hs hk
        have hbk := dk_is hv "bool" (by simp)
        generalize isK (dk d) "bool" = bk at hbk
        refine ⟨v, rfl, v, dk d, "int", true, rfl, dp_ty hv1, hk, true, rfl, iteT ⟨v, rfl, v, dk d, "bool", bk, rfl, dp_ty hv1, hbk, u, rfl, u, dk d, "bool", bk, rfl, dp_ty hu1, hbk, rfl, _, rfl, ?_⟩⟩
        rw [decide_eq_true rfl]
        refine iteT ⟨v, rfl, u, rfl, by rw [ev, eu]; exact hs, ?_⟩
        rw [decide_eq_true (ev.trans eu.symm)]
        exact q H1 e1
      have seq : (dk d == "tuple" || dk d == "list") = true → ∃ (a1 a2 : Addr) (xs ys : List V) (ds : List PyData), v = .ref a1 ∧ u = .ref a2 ∧ (SqL K H1 a1 xs ∨ SqT K H1 a1 xs) ∧ (SqL K H1 a2 ys ∨ SqT K H1 a2 ys) ∧ DpAll K H1 xs ds ∧ DpAll K H1 ys ds ∧ PyData.depthAll ds + 1 ≤ n ∧ max ds.length (wideAll ds) ≤ 100000 := by
        intro hk
        cases d with
        | list ds =>
          cases hv1 with
          | lst h1 h2 =>
            cases hu1 with
            | lst h3 h4 => exact ⟨_, _, _, _, ds, rfl, rfl, .inl h1, .inl h3, h2, h4, hd, hwd⟩
        | tuple ds =>
          cases hv1 with
          | tup h1 h2 =>
            cases hu1 with
            | tup h3 h4 => exact ⟨_, _, _, _, ds, rfl, rfl, .inr h1, .inr h3, h2, h4, hd, hwd⟩
        | none => exact absurd hk (by decide)
        | bool b => exact absurd hk (by simp [dk])
        | int i => exact absurd hk (by simp [dk])
        | str x => exact absurd hk (by simp [dk])
        | dict x => exact absurd hk (by simp [dk])
      cases hk : (dk d == "tuple" || dk d == "list") with
      | false =>
        refine iteF ⟨u, rfl, rfl, _, rfl, ?_⟩
        cases d with
        | none =>
          cases hv
          cases hu
          exact iteT (iteT (word .non rfl rfl rfl))
        | str x =>
          cases hv
          cases hu
          refine iteF ⟨.str x, rfl, .str x, "str", "str", true, rfl, dp_ty hu1, by decide +kernel, true, rfl, iteT (word (.str x) rfl rfl rfl)⟩
        | int i =>
          cases hv
          cases hu
          refine iteF ⟨.int i, rfl, .int i, "int", "str", false, rfl, dp_ty hu1, by decide +kernel, false, rfl, iteF (num (.int i) rfl rfl rfl (by show kitB "int" "int" = some true; decide +kernel))⟩
        | bool b =>
          cases hv
          cases hu
          refine iteF ⟨.bl b, rfl, .bl b, "bool", "str", false, rfl, dp_ty hu1, by decide +kernel, false, rfl, iteF (num (.bl b) rfl rfl rfl (by show kitB "bool" "int" = some true; decide +kernel))⟩
        | list ds => exact absurd hk (by simp [dk])
        | tuple ds => exact absurd hk (by simp [dk])
        | dict x => cases hv
      | true =>
        obtain ⟨a1, a2, xs, ys, ds, ev, eu, s1, s2, d1, d2, hn, hw⟩ := seq hk
        refine iteT ⟨v, rfl, by show 2 ≤ sizeLine; decide, fun t2 n2 => ?_⟩
        have e2 : Ex H1 (upd H1 t2 (.tup [.ty "tuple", .ty "list"])) := Ex.new n2
        refine ⟨v, t2, _, .type (dk d), [.type "tuple", .type "list"], true, rfl, upd_same, .cons (.ty _) (.cons (.ty _) .nil), dp_ty (dp_ex e2 d v hv1), by rw [← hk]; exact kit2 (dk d) (dk_of hu), true, rfl, iteF ?_⟩
        generalize upd H1 t2 (.tup [.ty "tuple", .ty "list"]) = H2 at e2
        have hbk := dk_is hv "list" (by simp)
        generalize isK (dk d) "list" = bk at hbk
        refine ⟨v, rfl, v, dk d, "list", bk, rfl, dp_ty (dp_ex e2 d v hv1), hbk, u, rfl, u, dk d, "list", bk, rfl, dp_ty (dp_ex e2 d u hu1), hbk, rfl, _, rfl, ?_⟩
        rw [decide_eq_true rfl]
        have s1' : SqL K H2 a1 xs ∨ SqT K H2 a1 xs := s1.elim (fun h => .inl (ex_l e2 h)) fun h => .inr (ex_t e2 h)
        have s2' : SqL K H2 a2 ys ∨ SqT K H2 a2 ys := s2.elim (fun h => .inl (ex_l e2 h)) fun h => .inr (ex_t e2 h)
        have l1 := dpAll_len d1
        have l2 := dpAll_len d2
        refine iteF ⟨v, rfl, a1, xs, by rw [ev], s1', u, rfl, a2, ys, by rw [eu], s2', rfl, _, rfl, ?_⟩
        rw [l1, l2, decide_eq_true rfl]
        have hw1 : ds.length ≤ 100000 := Nat.le_trans (Nat.le_max_left _ _) hw
        have hw2 : wideAll ds ≤ 100000 := Nat.le_trans (Nat.le_max_right _ _) hw
        refine iteF ⟨u, rfl, a2, ys, by rw [eu], s2', (ys.length : Int), rfl, by omega, by omega, fun D nD => ?_⟩
        refine lc_range (lo := 0) (n := ys.length) (fun i G' => Ex H2 G' ∧ H2 D = none ∧ G' D = some (.lst [])) ⟨Ex.new nD, nD, upd_same⟩ (fun i G' hi w => ?_) (fun G' w => ?_)
        · obtain ⟨e3, nD', eD⟩ := w
          have zi : (0 : Int) + (i : Int) = (i : Int) := by omega
          rw [zi]
          have hid : i < ds.length := by omega
          obtain ⟨x, hx, dx⟩ := dpAll_at d1 (List.getElem?_eq_getElem hid)
          obtain ⟨y, hy, dy⟩ := dpAll_at d2 (List.getElem?_eq_getElem hid)
          have e13 : Ex H1 G' := e2.trans e3
          have s1g : SqL K G' a1 xs ∨ SqT K G' a1 xs := s1.elim (fun h => .inl (ex_l e13 h)) fun h => .inr (ex_t e13 h)
          have s2g : SqL K G' a2 ys ∨ SqT K G' a2 ys := s2.elim (fun h => .inl (ex_l e13 h)) fun h => .inr (ex_t e13 h)
          refine ⟨rfl, v, rfl, .int i, rfl, rIx_of ev s1g hx ⟨u, rfl, .int i, rfl, rIx_of eu s2g hy ?_⟩⟩
          have b1 := depth_at (List.getElem?_eq_getElem hid)
          have b2 := wide_at (List.getElem?_eq_getElem hid)
          cases n with
          | zero => omega
          | succ n =>
            exact ⟨x, y, ds[i], rfl, dp_ex e13 _ x dx, dp_ex e13 _ y dy, by omega, by omega, fun G4 e4 => ⟨true, rfl, iteF ⟨e3.trans e4, nD', e4 _ _ eD⟩⟩⟩
        · obtain ⟨e3, nD', eD⟩ := w
          refine ⟨Nat.zero_le _, fun z nz => ?_⟩
          have e4 : Ex G' (upd G' z (.lst [])) := Ex.new nz
          exact ⟨.list [], .list [], .lst (SqL.of (e4 _ _ eD)) .nil, .lst (SqL.of upd_same) .nil, rfl, rfl, q _ (((e1.trans e2).trans e3).trans e4)⟩
end
end K01

set_option maxHeartbeats 4000000
namespace K01
open PySem PySem.Spec PyProof.Rows L2 Hd Evl
/-! ### what stays while the program runs: tuples, lists -/
/-- the defs of the program whose own tables change: generator expressions -/
def progTabs : List He.Defn := [("is_moment", none), ("is_session", none), ("moment_count", none), ("upper_moment", none), ("above", none), ("opened", none), ("Store", some "sealed_of")]
def Sk (K : PySem.W.Frag) (P : Addr) : Prop := ∃ p ∈ progTabs, P = (He.cT K p).2
/-- tuples stay, lists are lists -/
structure Kw (H H' : Hp) : Prop where
  t : ∀ b xs, H b = some (.tup xs) → H' b = some (.tup xs)
  l : ∀ b xs, H b = some (.lst xs) → ∃ ys, H' b = some (.lst ys)
theorem Kw.refl {H : Hp} : Kw H H := ⟨fun _ _ h => h, fun _ _ h => ⟨_, h⟩⟩
theorem Kw.trans {H H1 H2 : Hp} (a : Kw H H1) (b : Kw H1 H2) : Kw H H2 := ⟨fun c xs h => b.t c xs (a.t c xs h), fun c xs h => let ⟨ys, g⟩ := a.l c xs h; b.l c ys g⟩
theorem Kw.ex {H H1 : Hp} (e : Ex H H1) : Kw H H1 := ⟨fun c xs h => e _ _ h, fun c xs h => ⟨_, e _ _ h⟩⟩
theorem Kw.put {H : Hp} {D : Addr} {xs ys : List V} (h : H D = some (.lst xs)) : Kw H (upd H D (.lst ys)) := ⟨fun c zs g => by
  rw [upd_ne (fun e => by rw [e, h] at g; cases g)]
  exact g, fun c zs g => by
  by_cases e : c = D
  · exact ⟨ys, by rw [e, upd_same]⟩
  · exact ⟨zs, by rw [upd_ne e]; exact g⟩⟩
/-- all stays but tables in S; tables are tables -/
structure Kl (S : Addr → Prop) (H H' : Hp) : Prop where
  e : ∀ b o, H b = some o → (∀ ps, o ≠ .tbl ps) → H' b = some o
  s : ∀ b o, ¬ S b → H b = some o → H' b = some o
  g : ∀ P, GxR.TabG H P → GxR.TabG H' P
abbrev Ks (K : PySem.W.Frag) (H H' : Hp) : Prop := Kl (Sk K) H H'
theorem tab_ex {Pt : Addr} {H H' : Hp} (g : GxR.TabG H Pt) (e : Ex H H') : GxR.TabG H' Pt := let ⟨ps, h1, h2⟩ := g; ⟨ps, e _ _ h1, h2⟩
section
variable {S : Addr → Prop} {K : PySem.W.Frag}
theorem Kl.t {H H' : Hp} (a : Kl S H H') (b : Addr) (xs : List V) (h : H b = some (.tup xs)) : H' b = some (.tup xs) := a.e b _ h fun ps z => by cases z
theorem Kl.l {H H' : Hp} (a : Kl S H H') (b : Addr) (xs : List V) (h : H b = some (.lst xs)) : H' b = some (.lst xs) := a.e b _ h fun ps z => by cases z
theorem Kl.w {H H' : Hp} (a : Kl S H H') : Kw H H' := ⟨a.t, fun b xs h => ⟨xs, a.l b xs h⟩⟩
theorem Kl.refl {H : Hp} : Kl S H H := ⟨fun _ _ h _ => h, fun _ _ _ h => h, fun _ h => h⟩
theorem Kl.trans {H H1 H2 : Hp} (a : Kl S H H1) (b : Kl S H1 H2) : Kl S H H2 := ⟨fun c o h n => b.e c o (a.e c o h n) n, fun c o n h => b.s c o n (a.s c o n h), fun c h => b.g c (a.g c h)⟩
theorem Kl.ex {H H1 : Hp} (e : Ex H H1) : Kl S H H1 := ⟨fun c xs h _ => e _ _ h, fun c xs _ h => e _ _ h, fun c h => tab_ex h e⟩
theorem Kl.mono {S' : Addr → Prop} {H H1 : Hp} (a : Kl S H H1) (f : ∀ b, S b → S' b) : Kl S' H H1 := ⟨a.e, fun b o n h => a.s b o (fun z => n (f b z)) h, a.g⟩
theorem Ks.refl {H : Hp} : Ks K H H := Kl.refl
theorem Ks.trans {H H1 H2 : Hp} (a : Ks K H H1) (b : Ks K H1 H2) : Ks K H H2 := Kl.trans a b
theorem Ks.ex {H H1 : Hp} (e : Ex H H1) : Ks K H H1 := Kl.ex e
theorem Ks.tab {P : Addr} {H H1 : Hp} (k : Sk K P) (g : GxR.TabG H P) (t : GxR.Tabbed P H H1) : Ks K H H1 := by
  obtain ⟨ps, hP, _⟩ := g
  refine ⟨fun c o h n => ?_, fun c o n h => ?_, fun c h => ?_⟩
  · rw [t.2 c (fun e => by rw [e, hP] at h; exact n ps (Option.some.inj h).symm)]
    exact h
  · rw [t.2 c (fun e => n (e ▸ k))]
    exact h
  · by_cases e : c = P
    · rw [e]
      exact t.1
    · obtain ⟨qs, h1, h2⟩ := h
      exact ⟨qs, (t.2 c e).trans h1, h2⟩
end
theorem HouseAt.kw {H H' : Hp} {a : Addr} {n k d p c : Nat} (h : HouseAt H a n k d p c) (e : Kw H H') : HouseAt H' a n k d p c := { h with at_ := e.t _ _ h.at_ }
theorem HouseAt.ks {S : Addr → Prop} {H H' : Hp} {a : Addr} {n k d p c : Nat} (h : HouseAt H a n k d p c) (e : Kl S H H') : HouseAt H' a n k d p c := h.kw e.w
theorem KindV.kw {K : PySem.W.Frag} {H H' : Hp} {v : V} {s : String} (h : KindV K H v s) (e : Kw H H') : KindV K H' v s := by
  cases h with
  | non => exact .non
  | bl b => exact .bl b
  | int i => exact .int i
  | str x => exact .str x
  | lst h => exact (let ⟨ys, g⟩ := e.l _ _ h; .lst g)
  | tup h => exact .tup (e.t _ _ h)
theorem KindV.ks {S : Addr → Prop} {K : PySem.W.Frag} {H H' : Hp} {v : V} {s : String} (h : KindV K H v s) (e : Kl S H H') : KindV K H' v s := h.kw e.w
/-! ### deeds, moments -/
def deedB (d p : Nat) : List V → Bool
  | [x, y, z] => isNum x 0 ((d : Int) - 1) && (isNum y 0 ((p : Int) - 1) && isNum z 0 9)
  | _ => false
inductive DeedV (K : PySem.W.Frag) (H : Hp) (d p : Nat) : V → Bool → Prop
  | out {v : V} {s : String} (h : KindV K H v s) (hs : isK s "tuple" = false) : DeedV K H d p v false
  | tup {a : Addr} {xs : List V} (h : H a = some (.tup xs)) (all : ∀ x ∈ xs, ∃ s, KindV K H x s) : DeedV K H d p (.ref a) (deedB d p xs)
theorem DeedV.kw {K : PySem.W.Frag} {H H' : Hp} {d p : Nat} {v : V} {b : Bool} (h : DeedV K H d p v b) (e : Kw H H') : DeedV K H' d p v b := by
  cases h with
  | out h hs => exact .out (h.kw e) hs
  | tup h all => exact .tup (e.t _ _ h) fun x hx => let ⟨s, q⟩ := all x hx; ⟨s, q.kw e⟩
theorem DeedV.ks {S : Addr → Prop} {K : PySem.W.Frag} {H H' : Hp} {d p : Nat} {v : V} {b : Bool} (h : DeedV K H d p v b) (e : Kl S H H') : DeedV K H' d p v b := h.kw e.w
inductive MomentV (K : PySem.W.Frag) (H : Hp) (d p : Nat) : V → Bool → Prop
  | out {v : V} {s : String} (h : KindV K H v s) (hs : isK s "tuple" = false) : MomentV K H d p v false
  | tup {a : Addr} {xs : List V} {bs : List Bool} (h : H a = some (.tup xs)) (hb : Paired (DeedV K H d p) xs bs) : MomentV K H d p (.ref a) (decide (xs.length ≤ 6) && bs.all id)
section
variable {CX : CXT} {P : Program} {w : World} {K : PySem.W.Frag} {mg : Str → Option Value} {base : Heap} {CB CN : Addr}
def spDrawer (K : PySem.W.Frag) : Sp := fun vs H Q _ => ∃ a n k d p c v s, vs = [.ref a, v] ∧ HouseAt H a n k d p c ∧ KindV K H v s ∧ Q (.bl (isNum v 0 ((d : Int) - 1))) H
theorem ok_is_drawer {f fN : Addr} {fd fdN : FuncData} (F : FnP K "is_drawer" s_is_drawer f fd) (T : Fn P w K mg base CX0 1 "is_number" ["value", "least", "most"] (spNumber K) fN fdN) : FnOk P w K mg base CX 2 f fd ["house", "value"] (spDrawer K) := by
  refine F.ok (CX := CX) sc_is_drawer (fun vs H Q E h => ?_) (fun cdv A outer s H vs Q E hr h => ?_)
  · obtain ⟨a, n, k, d, p, c, v, s, rfl, _⟩ := h
    rfl
  · obtain ⟨a, n, k, d, p, c, v, sk, rfl, h, hk, q⟩ := h
    exact ⟨_, pss_one (ps_ret (pe_call T.G hr (by rfl) T.m T.k T.b .nil pass0 (pa_cons (pv 1) (pa_cons pe_int (pa_cons (pe_op op_sub (pe_ix ix_tup (pv 0) pe_int (fun _ _ => rfl)) pe_int) pa_nil))))),
      v, rfl, .ref a, rfl, a, _, _, .int d, rfl, rfl, SqT.of h.at_, atI_nat (j := 2) rfl, _, _, rfl, rfl, v, sk, _, _, rfl, hk, q⟩
def spPage (K : PySem.W.Frag) : Sp := fun vs H Q _ => ∃ a n k d p c v s, vs = [.ref a, v] ∧ HouseAt H a n k d p c ∧ KindV K H v s ∧ Q (.bl (isNum v 0 ((p : Int) - 1))) H
theorem ok_is_page {f fN : Addr} {fd fdN : FuncData} (F : FnP K "is_page" s_is_page f fd) (T : Fn P w K mg base CX0 1 "is_number" ["value", "least", "most"] (spNumber K) fN fdN) : FnOk P w K mg base CX 2 f fd ["house", "value"] (spPage K) := by
  refine F.ok (CX := CX) sc_is_page (fun vs H Q E h => ?_) (fun cdv A outer s H vs Q E hr h => ?_)
  · obtain ⟨a, n, k, d, p, c, v, s, rfl, _⟩ := h
    rfl
  · obtain ⟨a, n, k, d, p, c, v, sk, rfl, h, hk, q⟩ := h
    exact ⟨_, pss_one (ps_ret (pe_call T.G hr (by rfl) T.m T.k T.b .nil pass0 (pa_cons (pv 1) (pa_cons pe_int (pa_cons (pe_op op_sub (pe_ix ix_tup (pv 0) pe_int (fun _ _ => rfl)) pe_int) pa_nil))))),
      v, rfl, .ref a, rfl, a, _, _, .int p, rfl, rfl, SqT.of h.at_, atI_nat (j := 3) rfl, _, _, rfl, rfl, v, sk, _, _, rfl, hk, q⟩
def spDeed (K : PySem.W.Frag) : Sp := fun vs H Q _ => ∃ a n k d p c v b, vs = [.ref a, v] ∧ HouseAt H a n k d p c ∧ DeedV K H d p v b ∧ Q (.bl b) H
theorem ok_is_deed {f fN fD fP : Addr} {fd fdN fdD fdP : FuncData} (F : FnP K "is_deed" s_is_deed f fd) (B : Blt mg) (T : Fn P w K mg base CX0 1 "is_number" ["value", "least", "most"] (spNumber K) fN fdN) (TD : Fn P w K mg base CX0 2 "is_drawer" ["house", "value"] (spDrawer K) fD fdD) (TP : Fn P w K mg base CX0 2 "is_page" ["house", "value"] (spPage K) fP fdP) :
    FnOk P w K mg base CX 3 f fd ["house", "value"] (spDeed K) := by
  refine F.ok (CX := CX) sc_is_deed (fun vs H Q E h => ?_) (fun cdv A outer s H vs Q E hr h => ?_)
  · obtain ⟨a, n, k, d, p, c, v, b, rfl, _⟩ := h
    rfl
  · obtain ⟨a, n, k, d, p, c, v, b, rfl, h, hv, q⟩ := h
    refine ⟨_, (pss_cons (ps_if (PW.pt (pw_or (pt_not (pt_val (pe_callB call_isS (by rfl) B.isinstance (by decide +kernel) (pa_cons (pv 1) (pa_cons (pe_ty "tuple" (by rfl) B.tuple (by decide +kernel)) pa_nil))))) (pw_or1 (pt_cmpR op_ne (pe_callB call_len_seq (by rfl) B.len (by decide +kernel) (pa_cons (pv 1) pa_nil)) pe_int (nomark _))))) (pss_one (ps_ret pe_bl)) pss_nil)
    (pss_cons (ps_asg (pv 1) (pg_tup rfl (pgs_cons (pg_name (i := 2) sc_is_deed.nd rfl (Or.inl rfl)) (pgs_cons (pg_name (i := 3) sc_is_deed.nd rfl (Or.inl rfl)) (pgs_cons (pg_name (i := 4) sc_is_deed.nd rfl (Or.inl rfl)) pgs_nil)))))
    (pss_one (ps_ret (pe_and (pe_call TD.G hr (by rfl) TD.m TD.k TD.b .nil pass0 (pa_cons (pv 0) (pa_cons (pv 2) pa_nil))) (pe_and (pe_call TP.G hr (by rfl) TP.m TP.k TP.b .nil pass0 (pa_cons (pv 0) (pa_cons (pv 3) pa_nil))) (pe_one (pe_call T.G (hr.mono (by decide)) (by rfl) T.m T.k T.b .nil pass0 (pa_cons (pv 4) (pa_cons pe_int (pa_cons pe_int pa_nil))))))))))), ?_⟩
    cases hv with
    | @out v sk hk e =>
      refine ⟨_, rfl, _, _, "tuple", _, rfl, hk.ty, hk.isT, _, rfl, ?_⟩
      rw [e]
      exact iteT (iteT q)
    | @tup t xs ht all =>
      refine ⟨_, rfl, _, _, "tuple", _, rfl, (KindV.tup ht).ty, (KindV.tup (K := K) ht).isT, _, rfl, iteF ?_⟩
      refine ⟨_, rfl, t, xs, rfl, .inr (SqT.of ht), rfl, _, rfl, ?_⟩
      by_cases h3 : xs.length = 3
      · match xs, h3 with
        | [x, y, z], _ =>
          refine iteF ⟨_, rfl, t, _, rfl, SqT.of ht, rfl, _, _, rfl, _, _, rfl, _, _, rfl, rfl, ?_⟩
          obtain ⟨k1, g1⟩ := all x (by simp)
          obtain ⟨k2, g2⟩ := all y (by simp)
          obtain ⟨k3, g3⟩ := all z (by simp)
          change Q (.bl (isNum x 0 ((d : Int) - 1) && (isNum y 0 ((p : Int) - 1) && isNum z 0 9))) H at q
          refine ⟨.ref a, rfl, x, rfl, a, n, k, d, p, c, x, k1, rfl, h, g1, _, rfl, ite2 (fun e => ?_) (fun e => ?_)⟩
          · rw [e, Bool.true_and] at q
            refine ⟨.ref a, rfl, y, rfl, a, n, k, d, p, c, y, k2, rfl, h, g2, _, rfl, ite2 (fun e2 => ?_) (fun e2 => ?_)⟩
            · rw [e2, Bool.true_and] at q
              exact ⟨z, rfl, z, k3, 0, 9, rfl, g3, q⟩
            · rw [Bool.not_eq_true] at e2
              rw [e2, Bool.false_and] at q
              exact q
          · rw [Bool.not_eq_true] at e
            rw [e, Bool.false_and] at q
            exact q
      · have e : (!decide (V.int (xs.length : Int) = V.int 3)) = true := by
          rw [decide_eq_false (fun z => h3 (by injection z with z; omega))] <;> rfl
        rw [e]
        have e2 : deedB d p xs = false := by
          match xs, h3 with
          | [], _ => rfl
          | [_], _ => rfl
          | [_, _], _ => rfl
          | [_, _, _], h => exact absurd rfl h
          | _ :: _ :: _ :: _ :: _, _ => rfl
        rw [e2] at q
        exact iteT q
end
end K01

set_option maxHeartbeats 4000000
namespace K01
open PySem PySem.Spec PyProof.Rows L2 Hd Evl
section
variable {CX : CXT} {P : Program} {w : World} {K : PySem.W.Frag} {mg : Str → Option Value} {base : Heap} {CB CN : Addr}
/-- the def's code object stands at c, its table at Pt -/
structure CodeAt (K : PySem.W.Frag) (mg : Str → Option Value) (base : Heap) (fd : FuncData) (c Pt : Addr) : Prop where
  e : fd.code = .ref c
  tb : GxR.TabB base mg c Pt
  sk : Sk K Pt
def spMoment (K : PySem.W.Frag) (Pt : Addr) : Sp := fun vs H Q _ => ∃ a n k d p c v b, vs = [.ref a, v] ∧ HouseAt H a n k d p c ∧ MomentV K H d p v b ∧ GxR.TabG H Pt ∧ ∀ H2, Ks K H H2 → GxR.TabG H2 Pt → Q (.bl b) H2
theorem yes_go {σ : L2.St} {H : Hp} {A B : Hp → Prop} (h : A H) : tYes σ H (fun b H3 => if b = true then A H3 else B H3) := iteT (B := B H) h
theorem paired_at {α β : Type} {R : α → β → Prop} : ∀ {xs : List α} {ys : List β} {i : Nat} {x : α}, Paired R xs ys → xs[i]? = some x → ∃ y, ys[i]? = some y ∧ R x y
  | _, _, i, x, .nil, e => by simp at e
  | _, _, 0, x, .cons h t, e => ⟨_, rfl, by have := Option.some.inj (by simpa using e); rw [← this]; exact h⟩
  | _, _, i + 1, x, .cons h t, e => by
    obtain ⟨y, e1, e2⟩ := paired_at (i := i) t (by simpa using e)
    exact ⟨y, by simpa using e1, e2⟩
theorem ok_is_moment {f fD c Pt : Addr} {fd fdD : FuncData} {tk : Tok} (F : FnP K "is_moment" s_is_moment f fd) (B : Blt mg) (hall : mg "all" = none) (hM : mg "MOST_DEEDS" = some (.int 6 tk)) (CA : CodeAt K mg base fd c Pt) (TD : Fn P w K mg base CX0 3 "is_deed" ["house", "value"] (spDeed K) fD fdD) :
    FnOk P w K mg base CX 5 f fd ["house", "value"] (spMoment K Pt) := by
  obtain ⟨oc, od, dV, kV, doc, pm, an, cdv, ct, osl, rfl, lk, hcd, _, _⟩ := F.ex
  obtain rfl : cdv = .ref c := CA.e
  refine fn_of (k := 4) lk hcd sc_is_moment (fun vs H Q E h => ?_) (fun A outer s H vs Q E hr h => ?_)
  · obtain ⟨a, n, k, d, p, c, v, b, rfl, _⟩ := h
    rfl
  · obtain ⟨a, n, k, d, p, c', v, b, rfl, h, hv, hT, q⟩ := h
    refine ⟨_, (pss_cons (ps_if (PW.pt (pw_or (pt_not (pt_val (pe_callB call_isS (by rfl) B.isinstance (by decide +kernel) (pa_cons (pv 1) (pa_cons (pe_ty "tuple" (by rfl) B.tuple (by decide +kernel)) pa_nil))))) (pw_or1 (pt_cmpR op_gt (pe_callB call_len_seq (by rfl) B.len (by decide +kernel) (pa_cons (pv 1) pa_nil)) (pe_glob (v := .int 6) rfl hM ⟨tk, rfl⟩) (nomark _))))) (pss_one (ps_ret pe_bl)) pss_nil)
    (pss_one (ps_ret (pe_allG (own := [("deed", 2)]) (g := gName 2) (k := 3) hr (by rfl) hall CA.tb rfl (genOk_by (by rfl)) sc_is_moment.nd (pi_tup (pv 1)) (fun A s H code fp pn r => pg_name (i := 2) sc_is_moment.nd rfl (Or.inl rfl)) (fun A s H code fp pn r => pts_nil)
      (fun A s H code fp pn r => pe_call TD.G r (by rfl) TD.m TD.k TD.b .nil pass0 (pa_cons (pv 0) (pa_cons (pv 2) pa_nil))))))), ?_⟩
    cases hv with
    | @out v sk hk e =>
      refine ⟨_, rfl, _, _, "tuple", _, rfl, hk.ty, hk.isT, _, rfl, ?_⟩
      rw [e]
      exact iteT (iteT (q H Ks.refl hT))
    | @tup t xs bs ht hb =>
      refine ⟨_, rfl, _, _, "tuple", _, rfl, (KindV.tup ht).ty, (KindV.tup (K := K) ht).isT, _, rfl, iteF ?_⟩
      refine ⟨_, rfl, t, xs, rfl, .inr (SqT.of ht), _, _, rfl, rfl, _, rfl, ite2 (fun e => ?_) (fun e => ?_)⟩
      · have e6 : ¬ xs.length ≤ 6 := by have := of_decide_eq_true e; omega
        rw [decide_eq_false e6, Bool.false_and] at q
        exact q H Ks.refl hT
      · have e6 : xs.length ≤ 6 := by
          rw [decide_eq_true_eq] at e
          omega
        rw [decide_eq_true e6, Bool.true_and] at q
        have hlen := Paired.length hb
        refine ⟨.ref t, rfl, t, rfl, ⟨xs, SqT.of ht⟩, hT, fun H2 tb => gt_tup (xs := xs) (fun _ i H' => Ks K H H' ∧ GxR.TabG H' Pt ∧ (bs.take i).all id = true) (fun _ i H' _ w => SqT.of (w.1.t _ _ ht)) (fun u i x H' hx w => ?_) (fun u H' w => ?_) (c0 := ()) ⟨Ks.tab CA.sk hT tb, tb.1, rfl⟩⟩
        · obtain ⟨ks, tg, al⟩ := w
          obtain ⟨b, eb, dv⟩ := paired_at hb hx
          refine ⟨rfl, yes_go ⟨.ref a, rfl, x, rfl, a, n, k, d, p, c', x, b, rfl, h.ks ks, dv.ks ks, b, rfl, fun z => ⟨ks, tg, ?_⟩, fun z => ?_⟩⟩
          · rw [List.take_succ, eb, z, List.all_append, al] <;> rfl
          · have ef : bs.all id = false := by
              rw [List.all_eq_false]
              exact ⟨b, List.mem_of_getElem? eb, by rw [z]; decide⟩
            rw [ef] at q
            exact q H' ks tg
        · obtain ⟨ks, tg, al⟩ := w
          rw [hlen, List.take_length] at al
          rw [al] at q
          exact q H' ks tg
end
end K01

set_option maxHeartbeats 4000000
namespace K01
open PySem PySem.Spec PyProof.Rows L2 Hd Evl
/-! ### stories -/
theorem paired_imp {α β : Type} {R S : α → β → Prop} (f : ∀ a b, R a b → S a b) : ∀ {xs : List α} {ys : List β}, Paired R xs ys → Paired S xs ys
  | _, _, .nil => .nil
  | _, _, .cons h t => .cons (f _ _ h) (paired_imp f t)
theorem MomentV.kw {K : PySem.W.Frag} {H H' : Hp} {d p : Nat} {v : V} {b : Bool} (h : MomentV K H d p v b) (e : Kw H H') : MomentV K H' d p v b := by
  cases h with
  | out h hs => exact .out (h.kw e) hs
  | tup h hb => exact .tup (e.t _ _ h) (paired_imp (fun _ _ q => q.kw e) hb)
theorem MomentV.ks {S : Addr → Prop} {K : PySem.W.Frag} {H H' : Hp} {d p : Nat} {v : V} {b : Bool} (h : MomentV K H d p v b) (e : Kl S H H') : MomentV K H' d p v b := h.kw e.w
inductive StoryV (K : PySem.W.Frag) (H : Hp) (d p : Nat) : V → Option (List Bool) → Prop
  | out {v : V} {s : String} (h : KindV K H v s) (hs : isK s "tuple" = false) : StoryV K H d p v none
  | long {a : Addr} {xs : List V} (h : H a = some (.tup xs)) (hl : 40 < xs.length) : StoryV K H d p (.ref a) none
  | tup {a : Addr} {xs : List V} {bs : List Bool} (h : H a = some (.tup xs)) (hl : xs.length ≤ 40) (hb : Paired (MomentV K H d p) xs bs) : StoryV K H d p (.ref a) (some bs)
/-- C(x), its field named f, leaves a def -/
def Out (K : PySem.W.Frag) (C : Addr) (f : Str) (Pt : Addr) (E : XK) (H : Hp) (x : V) : Prop := ∀ dd H', Ks K H H' → GxR.TabG H' Pt → H' dd = some (.xd [(f, x)]) → E (.ref C) (some dd) H'
section
variable {CX : CXT} {P : Program} {w : World} {K : PySem.W.Frag} {mg : Str → Option Value} {base : Heap} {CB CN CS : Addr}
def spStory (K : PySem.W.Frag) (CS Pt : Addr) : Sp := fun vs H Q E => ∃ a n k d p c v o, vs = [.ref a, v] ∧ HouseAt H a n k d p c ∧ StoryV K H d p v o ∧ GxR.TabG H Pt ∧ (o = none → Out K CS "index" Pt E H .non) ∧
  ∀ bs, o = some bs → (bs.all id = true → ∀ H2, Ks K H H2 → GxR.TabG H2 Pt → Q .non H2) ∧ ∀ i : Nat, bs[i]? = some false → (bs.take i).all id = true → Out K CS "index" Pt E H (.int i)
theorem ok_check_story {f fM Pt : Addr} {fd fdM : FuncData} {tk : Tok} (F : FnP K "check_story" s_check_story f fd) (B : Blt mg) (hM : mg "MOST_MOMENTS" = some (.int 40 tk)) (TM : Fn P w K mg base CX0 5 "is_moment" ["house", "value"] (spMoment K Pt) fM fdM) (ES : ErrF P w K mg base "BadStory" "index" CS) :
    FnOk P w K mg base (L2.CX P w) 6 f fd ["house", "story"] (spStory K CS Pt) := by
  refine F.ok (CX := L2.CX P w) sc_check_story (fun vs H Q E h => ?_) (fun cdv A outer s H vs Q E hr h => ?_)
  · obtain ⟨a, n, k, d, p, c, v, o, rfl, _⟩ := h
    rfl
  · obtain ⟨a, n, k, d, p, c, v, o, rfl, h, hv, hT, q1, q2⟩ := h
    have h2 := hr.mono (show 2 ≤ 5 by decide)
    refine ⟨_, (pss_cons (ps_if (PW.pt (pw_or (pt_not (pt_val (pe_callB call_isS (by rfl) B.isinstance (by decide +kernel) (pa_cons (pv 1) (pa_cons (pe_ty "tuple" (by rfl) B.tuple (by decide +kernel)) pa_nil))))) (pw_or1 (pt_cmpR op_gt (pe_callB call_len_seq (by rfl) B.len (by decide +kernel) (pa_cons (pv 1) pa_nil)) (pe_glob (v := .int 40) rfl hM ⟨tk, rfl⟩) (nomark _))))) (pss_one (ps_raiseF ES rfl h2 (takes_of (E := E) rfl rfl rfl rfl) (by rfl) (pa_cons pe_non pa_nil))) pss_nil)
    (pss_one (ps_for (passes_of rfl) rfl (pi_enumT (by rfl) B.enumerate (pa_cons (pv 1) pa_nil)) (pg_tup rfl (pgs_cons (pg_name (i := 2) sc_check_story.nd rfl (Or.inl rfl)) (pgs_cons (pg_name (i := 3) sc_check_story.nd rfl (Or.inl rfl)) pgs_nil)))
      (pss_one (ps_if (pt_not (pt_val (pe_call TM.G hr (by rfl) TM.m TM.k TM.b .nil pass0 (pa_cons (pv 0) (pa_cons (pv 3) pa_nil))))) (pss_one (ps_raiseF ES rfl h2 (takes_of (E := E) rfl rfl rfl rfl) (by rfl) (pa_cons (pv 2) pa_nil))) pss_nil))))), ?_⟩
    have bad0 : o = none → ∀ (d : Addr) (H2 : Hp), Ex H H2 → H d = none → H2 d = some (.xd [("index", .non)]) → E (.ref CS) (some d) H2 := fun eo dd H2 e _ x => q1 eo dd H2 (Ks.ex e) (tab_ex hT e) x
    cases hv with
    | @out v sk hk e =>
      refine ⟨_, rfl, _, _, "tuple", _, rfl, hk.ty, hk.isT, _, rfl, ?_⟩
      rw [e]
      exact iteT (iteT ⟨.non, rfl, fun dd H2 e n x => bad0 rfl dd H2 e n x⟩)
    | @long t xs ht hl =>
      refine ⟨_, rfl, _, _, "tuple", _, rfl, (KindV.tup ht).ty, (KindV.tup (K := K) ht).isT, _, rfl, iteF ?_⟩
      refine ⟨_, rfl, t, xs, rfl, .inr (SqT.of ht), _, _, rfl, rfl, _, rfl, ?_⟩
      rw [decide_eq_true (show (40 : Int) < (xs.length : Int) by omega)]
      exact iteT ⟨.non, rfl, fun dd H2 e n x => bad0 rfl dd H2 e n x⟩
    | @tup t xs bs ht hl hb =>
      refine ⟨_, rfl, _, _, "tuple", _, rfl, (KindV.tup ht).ty, (KindV.tup (K := K) ht).isT, _, rfl, iteF ?_⟩
      refine ⟨_, rfl, t, xs, rfl, .inr (SqT.of ht), _, _, rfl, rfl, _, rfl, ?_⟩
      rw [decide_eq_false (show ¬ (40 : Int) < (xs.length : Int) by omega)]
      obtain ⟨qn, qi⟩ := q2 bs rfl
      have hlen := Paired.length hb
      refine iteF ⟨.ref t, rfl, t, xs, rfl, SqT.of ht, ?_⟩
      refine for_enumT (xs := xs) (fun i σ G => ∃ y2 y3 : Option V, σ = [some (.ref a), some (.ref t), y2, y3] ∧ Ks K H G ∧ GxR.TabG G Pt ∧ (bs.take i).all id = true) ⟨none, none, rfl, Ks.refl, hT, rfl⟩ (fun i σ G _ w => by obtain ⟨_, _, _, ks, _⟩ := w; exact SqT.of (ks.t _ _ ht)) (fun i x σ G T2 hx w nT => ?_) (fun σ G w => ?_)
      · obtain ⟨y2, y3, rfl, ks, tg, al⟩ := w
        obtain ⟨b, eb, mv⟩ := paired_at hb hx
        have e1 := Ex.new (o := .tup [V.int (i : Nat), x]) nT
        have k1 := ks.trans (Ks.ex e1)
        refine ⟨T2, _, rfl, SqT.of upd_same, rfl, _, _, rfl, _, _, rfl, rfl, ?_⟩
        refine ⟨.ref a, rfl, x, rfl, a, n, k, d, p, c, x, b, rfl, h.ks k1, mv.ks k1, tab_ex tg e1, fun G2 k2 t2 => ⟨b, rfl, ?_⟩⟩
        cases b with
        | true =>
          refine iteF ⟨_, _, rfl, k1.trans k2, t2, ?_⟩
          rw [List.take_succ, eb, List.all_append, al] <;> rfl
        | false => exact iteT ⟨.int i, rfl, .int i, rfl, fun dd H2 e nd xd => qi i eb al dd H2 ((k1.trans k2).trans (Ks.ex e)) (tab_ex t2 e) xd⟩
      · obtain ⟨y2, y3, rfl, ks, tg, al⟩ := w
        rw [hlen, List.take_length] at al
        exact qn al G ks tg
end
end K01

set_option maxHeartbeats 4000000
namespace K01
open PySem PySem.Spec PyProof.Rows L2 Hd Evl
def okS : Option (List Bool) → Bool
  | none => false
  | some bs => bs.all id
section
variable {CX : CXT} {P : Program} {w : World} {K : PySem.W.Frag} {mg : Str → Option Value} {base : Heap} {CB CN CS : Addr}
def spIsStory (K : PySem.W.Frag) (Pt : Addr) : Sp := fun vs H Q E => ∃ a n k d p c v o, vs = [.ref a, v] ∧ HouseAt H a n k d p c ∧ StoryV K H d p v o ∧ GxR.TabG H Pt ∧ ∀ H2, Ks K H H2 → GxR.TabG H2 Pt → Q (.bl (okS o)) H2
theorem first_bad : ∀ {bs : List Bool}, bs.all id = false → ∃ i : Nat, bs[i]? = some false ∧ (bs.take i).all id = true
  | [], h => by cases h
  | false :: r, _ => ⟨0, rfl, rfl⟩
  | true :: r, h => by
    obtain ⟨i, h1, h2⟩ := first_bad (bs := r) h
    exact ⟨i + 1, h1, h2⟩
theorem ok_is_story {f fC fS Pt : Addr} {fd fdC fdS : FuncData} (F : FnP K "is_story" s_is_story f fd) (TC : Fn P w K mg base (L2.CX P w) 3 "check_house" ["house"] (spCheck K CB) fC fdC) (TS : Fn P w K mg base (L2.CX P w) 6 "check_story" ["house", "story"] (spStory K CS Pt) fS fdS) (mS : mg "BadStory" = some (.ref CS))
    (x1 : PySem.W.exmOne K (.ref CS) (.ref CS) = some true) : FnOk P w K mg base (L2.CX P w) 7 f fd ["house", "value"] (spIsStory K Pt) := by
  refine F.ok (CX := L2.CX P w) sc_is_story (fun vs H Q E h => ?_) (fun cdv A outer s H vs Q E hr h => ?_)
  · obtain ⟨a, n, k, d, p, c, v, o, rfl, _⟩ := h
    rfl
  · obtain ⟨a, n, k, d, p, c, v, o, rfl, h, hv, hT, q⟩ := h
    let X0 : Cx := cxOf (L2.CX P w) P w K mg base n_is_story "is_story" (defScope s_is_story) f cdv A outer s H E
    refine ⟨_, (pss_cons (ps_expr (pe_call TC.G (hr.mono (by decide)) (by rfl) TC.m TC.k TC.b .nil (passX (E := E) rfl rfl rfl rfl) (pa_cons (pv 0) pa_nil)))
      (pss_cons (ps_tries (X := X0) (tb := fun W D σ H => ∃ Ech : XK, (∀ cls d σ' H', Ech cls d H' → W cls d σ' H') ∧ tCall (spStory K CS Pt) [] Ech (tCons (tVar 0) (tCons (tVar 1) tNil)) σ H fun _ H1 => D.nx σ H1) rfl rfl (takes_of (E := E) rfl rfl rfl rfl)
          (fun W pn xe tk _ => ⟨fun pins s' σ H' D I h' => ?_⟩) (Clauses.bare ⟨by rfl, by decide, .inl mS⟩ (fun a oe k d pn z _ => pss_one (ps_ret pe_bl)) .nil))
      (pss_one (ps_ret pe_bl)))), ?_⟩
    · obtain ⟨Ech, hW, h1⟩ := h'
      exact (pss_one (ps_expr (pe_call TS.G hr (by rfl) TS.m TS.k TS.b .nil (passes_call tk hW) (pa_cons (pv 0) (pa_cons (pv 1) pa_nil))))).run pins s' σ H' D I h1
    · refine ⟨.ref a, rfl, .ref a, none, rfl, h.wr, fun _ => ?_, (fun x e => by cases e)⟩
      refine ⟨fun cls _ H' => cls = .ref CS ∧ Q (.bl false) H', fun cls d' σ' H' he => ?_, .ref a, rfl, v, rfl, a, n, k, d, p, c, v, o, rfl, h, hv, hT, fun eo dd H' ks tg _ => ⟨rfl, ?_⟩, fun bs eo => ⟨fun al H2 ks tg => ?_, fun i hi hal dd H' ks tg _ => ⟨rfl, ?_⟩⟩⟩
      · obtain ⟨rfl, hq⟩ := he
        exact ⟨true, x1, fun _ a _ => hq, fun z => by cases z⟩
      · rw [eo] at q
        exact q H' ks tg
      · rw [eo] at q
        have e : okS (some bs) = true := al
        rw [e] at q
        exact q H2 ks tg
      · rw [eo] at q
        have e : okS (some bs) = false := by
          show bs.all id = false
          rw [List.all_eq_false]
          exact ⟨false, List.mem_of_getElem? hi, by decide⟩
        rw [e] at q
        exact q H' ks tg
end
end K01

set_option maxHeartbeats 4000000
namespace K01
open PySem PySem.Spec PyProof.Rows L2 Hd Evl
/-! ### moments counted -/
/-- a session whose story has l moments -/
def SessL (H : Hp) (v : V) (l : Nat) : Prop := ∃ t dp u us, v = .ref t ∧ H t = some (.tup [dp, .ref u]) ∧ H u = some (.tup us) ∧ us.length = l
def rLenK (K : PySem.W.Frag) : List V → Hp → VK → Prop := fun xs H Q => ∃ p ys, xs = [.ref p] ∧ (SqL K H p ys ∨ SqT K H p ys) ∧ Q (.int ys.length) H
section
variable {CX : CXT} {P : Program} {w : World} {K : PySem.W.Frag} {mg : Str → Option Value} {base : Heap} {CB CN CS : Addr}
def spMany (K : PySem.W.Frag) (Pt : Addr) : Sp := fun vs H Q _ => ∃ a ss ls, vs = [.ref a] ∧ H a = some (.tup ss) ∧ Paired (SessL H) ss ls ∧ ls.sum ≤ 1000000 ∧ GxR.TabG H Pt ∧ ∀ H2, Ks K H H2 → GxR.TabG H2 Pt → Q (.int (ls.sum : Nat)) H2
theorem sum_take : ∀ (ls : List Nat) (i : Nat), (ls.take i).sum ≤ ls.sum
  | [], i => by simp
  | x :: r, 0 => by simp
  | x :: r, i + 1 => by
    have := sum_take r i
    simp only [List.take_succ_cons, List.sum_cons]
    omega
theorem ok_many {f c Pt : Addr} {fd : FuncData} (F : FnP K "moment_count" s_moment_count f fd) (B : Blt mg) (CA : CodeAt K mg base fd c Pt) : FnOk P w K mg base CX 2 f fd ["life"] (spMany K Pt) := by
  obtain ⟨oc, od, dV, kV, doc, pm, an, cdv, ct, osl, rfl, lk, hcd, _, _⟩ := F.ex
  obtain rfl : cdv = .ref c := CA.e
  refine fn_of (k := 1) lk hcd sc_moment_count (fun vs H Q E h => ?_) (fun A outer s H vs Q E hr h => ?_)
  · obtain ⟨a, ss, ls, rfl, _⟩ := h
    rfl
  · obtain ⟨a, ss, ls, rfl, ha, hp, hz, hT, q⟩ := h
    refine ⟨_, pss_one (ps_ret (pe_sumG (own := [("session", 1)]) (g := gName 1) (k := 0) hr (by rfl) B.sum CA.tb rfl (genOk_by (by rfl)) sc_moment_count.nd (pi_tup (pv 0)) (fun A s H code fp pn r => pg_name (i := 1) sc_moment_count.nd rfl (Or.inl rfl)) (fun A s H code fp pn r => pts_nil)
      (fun A s H code fp pn r => pe_callB (call_len_seq : CallR _ _ (rLenK K)) (by rfl) B.len (by decide +kernel) (pa_cons (pe_ix (ix_tup : IxR _ (rIxT K)) (pv 1) pe_int (fun _ _ => rfl)) pa_nil)))), ?_⟩
    have hlen := Paired.length hp
    refine ⟨.ref a, rfl, a, rfl, ⟨ss, SqT.of ha⟩, hT, fun H2 tb => gt_tup (xs := ss) (fun (c : Int) i H' => c = ((ls.take i).sum : Nat) ∧ Ks K H H' ∧ GxR.TabG H' Pt) (fun _ i H' _ w => SqT.of (w.2.1.t _ _ ha)) (fun c i x H' hx w => ?_) (fun c H' w => ?_) (c0 := 0) ⟨rfl, Ks.tab CA.sk hT tb, tb.1⟩⟩
    · obtain ⟨rfl, ks, tg⟩ := w
      obtain ⟨l, el, t, dp, u, us, rfl, h1, h2, h3⟩ := paired_at hp hx
      have e : (ls.take (i + 1)).sum = (ls.take i).sum + l := by
        rw [List.take_succ, el, List.sum_append] <;> simp
      have b1 := sum_take ls (i + 1)
      rw [e] at b1
      refine ⟨rfl, yes_go ⟨.ref t, rfl, t, _, _, .ref u, rfl, rfl, SqT.of (ks.t _ _ h1), atI_nat (j := 1) rfl, u, us, rfl, .inr (SqT.of (ks.t _ _ h2)), us.length, rfl, ⟨by omega, by omega⟩, ⟨by omega, by omega⟩, ?_, ks, tg⟩⟩
      rw [e, h3]
      omega
    · obtain ⟨rfl, ks, tg⟩ := w
      rw [hlen, List.take_length]
      exact q H' ks tg
end
end K01

set_option maxHeartbeats 4000000
namespace K01
open PySem PySem.Spec PyProof.Rows L2 Hd Evl
/-! ### coins -/
inductive CoinV (K : PySem.W.Frag) (H : Hp) (m : Nat) : V → Bool → Prop
  | mk {v : V} {s : String} (h : KindV K H v s) : CoinV K H m v (isNum v 0 ((m : Int) - 1))
theorem CoinV.kw {K : PySem.W.Frag} {H H' : Hp} {m : Nat} {v : V} {b : Bool} (h : CoinV K H m v b) (e : Kw H H') : CoinV K H' m v b := by
  cases h with
  | mk h => exact .mk (h.kw e)
theorem CoinV.ks {S : Addr → Prop} {K : PySem.W.Frag} {H H' : Hp} {m : Nat} {v : V} {b : Bool} (h : CoinV K H m v b) (e : Kl S H H') : CoinV K H' m v b := h.kw e.w
/-- m coins of a house's row, each one of t; none: no such tuple -/
inductive CoinsV (K : PySem.W.Frag) (H : Hp) (t m : Nat) : V → Option (List Bool) → Prop
  | out {v : V} {s : String} (h : KindV K H v s) (hs : isK s "tuple" = false) : CoinsV K H t m v none
  | len {a : Addr} {xs : List V} (h : H a = some (.tup xs)) (hl : xs.length ≠ m) : CoinsV K H t m (.ref a) none
  | tup {a : Addr} {xs : List V} {bs : List Bool} (h : H a = some (.tup xs)) (hl : xs.length = m) (hb : Paired (CoinV K H t) xs bs) : CoinsV K H t m (.ref a) (some bs)
theorem CoinsV.kw {K : PySem.W.Frag} {H H' : Hp} {t m : Nat} {v : V} {o : Option (List Bool)} (h : CoinsV K H t m v o) (e : Kw H H') : CoinsV K H' t m v o := by
  cases h with
  | out h hs => exact .out (h.kw e) hs
  | len h hl => exact .len (e.t _ _ h) hl
  | tup h hl hb => exact .tup (e.t _ _ h) hl (paired_imp (fun _ _ q => q.kw e) hb)
section
variable {CX : CXT} {P : Program} {w : World} {K : PySem.W.Frag} {mg : Str → Option Value} {base : Heap} {CB CN CS : Addr}
def spCoins (K : PySem.W.Frag) (CS Pt : Addr) : Sp := fun vs H Q E => ∃ a n k d p c l ss ls v o, vs = [.ref a, .ref l, v] ∧ HouseAt H a n k d p c ∧ H l = some (.tup ss) ∧ Paired (SessL H) ss ls ∧ ls.sum ≤ 1000000 ∧ CoinsV K H (nck n k) ls.sum v o ∧ GxR.TabG H Pt ∧ (o = none → Out K CS "index" Pt E H .non) ∧
  ∀ bs, o = some bs → (bs.all id = true → ∀ H2, Ks K H H2 → GxR.TabG H2 Pt → Q .non H2) ∧ ∀ i : Nat, bs[i]? = some false → (bs.take i).all id = true → Out K CS "index" Pt E H (.int i)
theorem ok_check_coins {f fM fI Pt : Addr} {fd fdM fdI : FuncData} (F : FnP K "check_coins" s_check_coins f fd) (B : Blt mg) (TM : Fn P w K mg base CX0 2 "moment_count" ["life"] (spMany K Pt) fM fdM) (TI : Fn P w K mg base CX0 2 "is_coin" ["house", "value"] (spIsCoin K) fI fdI) (ES : ErrF P w K mg base "BadCoins" "index" CS) :
    FnOk P w K mg base (L2.CX P w) 3 f fd ["house", "life", "coins"] (spCoins K CS Pt) := by
  refine F.ok (CX := L2.CX P w) sc_check_coins (fun vs H Q E h => ?_) (fun cdv A outer s H vs Q E hr h => ?_)
  · obtain ⟨a, n, k, d, p, c, l, ss, ls, v, o, rfl, _⟩ := h
    rfl
  · obtain ⟨a, n, k, d, p, c, l, ss, ls, v, o, rfl, h, hl, hss, hz, hv, hT, q1, q2⟩ := h
    refine ⟨_, (pss_cons (ps_if (PW.pt (pw_or (pt_not (pt_val (pe_callB call_isS (by rfl) B.isinstance (by decide +kernel) (pa_cons (pv 2) (pa_cons (pe_ty "tuple" (by rfl) B.tuple (by decide +kernel)) pa_nil))))) (pw_or1 (pt_cmpR op_ne (pe_callB call_len_seq (by rfl) B.len (by decide +kernel) (pa_cons (pv 2) pa_nil)) (pe_call TM.G hr (by rfl) TM.m TM.k TM.b .nil pass0 (pa_cons (pv 1) pa_nil)) (nomark _))))) (pss_one (ps_raiseF ES rfl hr (takes_of (E := E) rfl rfl rfl rfl) (by rfl) (pa_cons pe_non pa_nil))) pss_nil)
    (pss_one (ps_for (passes_of rfl) rfl (pi_enumT (by rfl) B.enumerate (pa_cons (pv 2) pa_nil)) (pg_tup rfl (pgs_cons (pg_name (i := 3) sc_check_coins.nd rfl (Or.inl rfl)) (pgs_cons (pg_name (i := 4) sc_check_coins.nd rfl (Or.inl rfl)) pgs_nil)))
      (pss_one (ps_if (pt_not (pt_val (pe_call TI.G hr (by rfl) TI.m TI.k TI.b .nil pass0 (pa_cons (pv 0) (pa_cons (pv 4) pa_nil))))) (pss_one (ps_raiseF ES rfl hr (takes_of (E := E) rfl rfl rfl rfl) (by rfl) (pa_cons (pv 3) pa_nil))) pss_nil))))), ?_⟩
    cases hv with
    | @out v sk hk e =>
      refine ⟨_, rfl, _, _, "tuple", _, rfl, hk.ty, hk.isT, _, rfl, ?_⟩
      rw [e]
      exact iteT (iteT ⟨.non, rfl, fun dd H2 e n x => q1 rfl dd H2 (Ks.ex e) (tab_ex hT e) x⟩)
    | @len t xs ht hne =>
      refine ⟨_, rfl, _, _, "tuple", _, rfl, (KindV.tup ht).ty, (KindV.tup (K := K) ht).isT, _, rfl, iteF ?_⟩
      refine ⟨_, rfl, t, xs, rfl, .inr (SqT.of ht), .ref l, rfl, l, ss, ls, rfl, hl, hss, hz, hT, fun H2 ks tg => ⟨rfl, _, rfl, ?_⟩⟩
      have e : (!decide (V.int (xs.length : Int) = V.int (ls.sum : Nat))) = true := by
        rw [decide_eq_false (fun z => hne (by injection z with z; omega))] <;> rfl
      rw [e]
      exact iteT ⟨.non, rfl, fun dd H3 e n x => q1 rfl dd H3 (ks.trans (Ks.ex e)) (tab_ex tg e) x⟩
    | @tup t xs bs ht hx hb =>
      refine ⟨_, rfl, _, _, "tuple", _, rfl, (KindV.tup ht).ty, (KindV.tup (K := K) ht).isT, _, rfl, iteF ?_⟩
      refine ⟨_, rfl, t, xs, rfl, .inr (SqT.of ht), .ref l, rfl, l, ss, ls, rfl, hl, hss, hz, hT, fun H1 ks1 tg1 => ⟨rfl, _, rfl, ?_⟩⟩
      rw [hx, decide_eq_true rfl]
      obtain ⟨qn, qi⟩ := q2 bs rfl
      have hlen := Paired.length hb
      refine iteF ⟨.ref t, rfl, t, xs, rfl, SqT.of (ks1.t _ _ ht), ?_⟩
      refine for_enumT (xs := xs) (fun i σ G => ∃ y3 y4 : Option V, σ = [some (.ref a), some (.ref l), some (.ref t), y3, y4] ∧ Ks K H G ∧ GxR.TabG G Pt ∧ (bs.take i).all id = true) ⟨none, none, rfl, ks1, tg1, rfl⟩ (fun i σ G _ w => by obtain ⟨_, _, _, ks, _⟩ := w; exact SqT.of (ks.t _ _ ht)) (fun i x σ G T2 hx w nT => ?_) (fun σ G w => ?_)
      · obtain ⟨y3, y4, rfl, ks, tg, al⟩ := w
        obtain ⟨b, eb, cv⟩ := paired_at hb hx
        have e1 := Ex.new (o := .tup [V.int (i : Nat), x]) nT
        have k1 := ks.trans (Ks.ex e1)
        have cv' := cv.ks k1
        obtain ⟨sk, kx⟩ : ∃ sk, KindV K (upd G T2 (.tup [V.int (i : Nat), x])) x sk := by
          cases cv' with
          | mk h => exact ⟨_, h⟩
        have eb' : isNum x 0 ((nck n k : Nat) - 1) = b := by cases cv'; rfl
        refine ⟨T2, _, rfl, SqT.of upd_same, rfl, _, _, rfl, _, _, rfl, rfl, ?_⟩
        refine ⟨.ref a, rfl, x, rfl, a, n, k, d, p, c, x, sk, rfl, h.ks k1, kx, _, rfl, ?_⟩
        rw [eb']
        cases b with
        | true =>
          refine iteF ⟨_, _, rfl, k1, tab_ex tg e1, ?_⟩
          rw [List.take_succ, eb, List.all_append, al] <;> rfl
        | false => exact iteT ⟨.int i, rfl, .int i, rfl, fun dd H2 e nd xd => qi i eb al dd H2 (k1.trans (Ks.ex e)) (tab_ex (tab_ex tg e1) e) xd⟩
      · obtain ⟨y3, y4, rfl, ks, tg, al⟩ := w
        rw [hlen, List.take_length] at al
        exact qn al G ks tg
end
end K01

set_option maxHeartbeats 4000000
namespace K01
open PySem PySem.Spec PyProof.Rows L2 Hd Evl
section
variable {CX : CXT} {P : Program} {w : World} {K : PySem.W.Frag} {mg : Str → Option Value} {base : Heap} {CB CN CD CP : Addr}
/-! ### check_drawer, check_page -/
def spChk (K : PySem.W.Frag) (top : Nat → Nat → Nat) (C : Addr) : Sp := fun vs H Q E => ∃ a n k d p c v s, vs = [.ref a, v] ∧ HouseAt H a n k d p c ∧ KindV K H v s ∧ (isNum v 0 ((top d p : Nat) - 1) = true → Q .non H) ∧ (isNum v 0 ((top d p : Nat) - 1) = false → E (.ref C) none H)
theorem ok_check_drawer {f fD : Addr} {fd fdD : FuncData} (F : FnP K "check_drawer" s_check_drawer f fd) (TD : Fn P w K mg base CX0 2 "is_drawer" ["house", "value"] (spDrawer K) fD fdD) (N : ErrP K mg "BadDrawer" CD) : FnOk P w K mg base (L2.CX P w) 3 f fd ["house", "drawer"] (spChk K (fun d _ => d) CD) := by
  refine F.ok (CX := L2.CX P w) sc_check_drawer (fun vs H Q E h => ?_) (fun cdv A outer s H vs Q E hr h => ?_)
  · obtain ⟨a, n, k, d, p, c, v, s, rfl, _⟩ := h
    rfl
  · obtain ⟨a, n, k, d, p, c, v, sk, rfl, h, hk, q1, q2⟩ := h
    refine ⟨_, pss_one (ps_if (pt_not (pt_val (pe_call TD.G hr (by rfl) TD.m TD.k TD.b .nil pass0 (pa_cons (pv 0) (pa_cons (pv 1) pa_nil))))) (pss_one (ps_raiseP N rfl (takes_of (E := E) rfl rfl rfl rfl) (by rfl))) pss_nil), ?_⟩
    refine ⟨.ref a, rfl, v, rfl, a, n, k, d, p, c, v, sk, rfl, h, hk, _, rfl, ?_⟩
    cases e : isNum v 0 ((d : Int) - 1) with
    | true => exact iteF (q1 e)
    | false => exact iteT (q2 e)
end
end K01

set_option maxHeartbeats 4000000
namespace K01
open PySem PySem.Spec PyProof.Rows L2 Hd Evl
def waysL : List Str := ["true", "free", "idle", "kept", "need", "lower"]
def waysV : List V := waysL.map V.str
theorem inV_str (x : Str) : ∀ l : List Str, inV (.str x) (l.map V.str) = l.contains x
  | [] => rfl
  | y :: r => by
    have ih := inV_str x r
    unfold inV at ih ⊢
    rw [List.map_cons, List.any_cons, ih, List.contains_cons]
    congr 1
    show (y == x) = (x == y)
    exact Bool.eq_iff_iff.mpr ⟨fun h => by rw [beq_iff_eq] at h ⊢; exact h.symm, fun h => by rw [beq_iff_eq] at h ⊢; exact h.symm⟩
section
variable {CX : CXT} {P : Program} {w : World} {K : PySem.W.Frag} {mg : Str → Option Value} {base : Heap} {CB CN CD CP : Addr}
def wayOk : V → Bool
  | .str x => waysL.contains x
  | _ => false
def spWay (K : PySem.W.Frag) (CB : Addr) : Sp := fun vs H Q E => ∃ v s, vs = [v] ∧ KindV K H v s ∧ (wayOk v = true → Q .non H) ∧ (wayOk v = false → Refuses CB E H "way")
theorem ok_check_way {f aW : Addr} {fd : FuncData} (F : FnP K "check_way" s_check_way f fd) (B : Blt mg) (hW : mg "WAYS" = some (.ref aW)) (hS : ∀ H, SqT K H aW waysV) (EB : ErrF P w K mg base "BadHouse" "word" CB) : FnOk P w K mg base (L2.CX P w) 3 f fd ["way"] (spWay K CB) := by
  refine F.ok (CX := L2.CX P w) sc_check_way (fun vs H Q E h => ?_) (fun cdv A outer s H vs Q E hr h => ?_)
  · obtain ⟨v, s, rfl, _⟩ := h
    rfl
  · obtain ⟨v, sk, rfl, hk, q1, q2⟩ := h
    refine ⟨_, (pss_one (ps_if (PW.pt (pw_or (pt_not (pt_val (pe_callB call_isS (by rfl) B.isinstance (by decide +kernel) (pa_cons (pv 0) (pa_cons (pe_ty "str" (by rfl) B.str (by decide +kernel)) pa_nil))))) (pw_or1 (pt_cmpR op_notIn_seq (pv 0) (pe_glob (v := .ref aW) rfl hW rfl) (by rfl))))) (pss_one (ps_raiseF EB rfl hr (takes_of (E := E) rfl rfl rfl rfl) (by rfl) (pa_cons pe_str pa_nil))) pss_nil)), ?_⟩
    refine ⟨v, rfl, v, sk, "str", _, rfl, hk.ty, hk.isS, _, rfl, ?_⟩
    cases hk with
    | non => exact iteT (iteT ⟨_, rfl, fun dd H2 e n x => q2 rfl dd H2 e n x⟩)
    | bl b => exact iteT (iteT ⟨_, rfl, fun dd H2 e n x => q2 rfl dd H2 e n x⟩)
    | int i => exact iteT (iteT ⟨_, rfl, fun dd H2 e n x => q2 rfl dd H2 e n x⟩)
    | lst h => exact iteT (iteT ⟨_, rfl, fun dd H2 e n x => q2 rfl dd H2 e n x⟩)
    | tup h => exact iteT (iteT ⟨_, rfl, fun dd H2 e n x => q2 rfl dd H2 e n x⟩)
    | str x =>
      refine iteF ⟨.str x, rfl, aW, waysV, rfl, .inr (hS H), rfl, rfl, _, rfl, ?_⟩
      have e : inV (.str x) waysV = wayOk (.str x) := inV_str x waysL
      show (if (!inV (.str x) waysV) = true then _ else _)
      rw [e]
      cases ew : wayOk (.str x) with
      | true => exact iteF (q1 ew)
      | false => exact iteT ⟨_, rfl, fun dd H2 e n y => q2 ew dd H2 e n y⟩
end
end K01

set_option maxHeartbeats 4000000
namespace K01
open PySem PySem.Spec PyProof.Rows L2 Hd Evl
/-! ### sessions -/
/-- whether the deeds' drawers are at most u -/
def DeedLow (H : Hp) (u : Int) (e : V) (z : Bool) : Prop := ∃ t y ys, e = .ref t ∧ H t = some (.tup (.int y :: ys)) ∧ z = decide (y ≤ u)
def MomentLow (H : Hp) (u : Int) (m : V) (c : Bool) : Prop := ∃ t ds cs, m = .ref t ∧ H t = some (.tup ds) ∧ ds.length ≤ 6 ∧ c = cs.all id ∧ Paired (DeedLow H u) ds cs
def StoryLow (H : Hp) (u : Int) (v : V) (b : Bool) : Prop := ∃ t ms bs, v = .ref t ∧ H t = some (.tup ms) ∧ b = bs.all id ∧ Paired (MomentLow H u) ms bs
inductive SessV (K : PySem.W.Frag) (H : Hp) (d p : Nat) : V → Bool → Prop
  | out {v : V} {s : String} (h : KindV K H v s) (hs : isK s "tuple" = false) : SessV K H d p v false
  | len {a : Addr} {xs : List V} (h : H a = some (.tup xs)) (hl : xs.length ≠ 2) : SessV K H d p (.ref a) false
  | bad {a : Addr} {u v : V} {s : String} {o : Option (List Bool)} (h : H a = some (.tup [u, v])) (ku : KindV K H u s) (sv : StoryV K H d p v o) (hb : (isNum u 0 ((d : Int) - 1) && okS o) = false) : SessV K H d p (.ref a) false
  | good {a : Addr} {u : Int} {v : V} {o : Option (List Bool)} {b : Bool} (h : H a = some (.tup [.int u, v])) (hu : isNum (.int u) 0 ((d : Int) - 1) = true) (sv : StoryV K H d p v o) (ho : okS o = true) (lo : StoryLow H u v b) : SessV K H d p (.ref a) b
section
variable {CX : CXT} {P : Program} {w : World} {K : PySem.W.Frag} {mg : Str → Option Value} {base : Heap} {CB CN CD CP : Addr}
def spSession (K : PySem.W.Frag) (Pm Ps : Addr) : Sp := fun vs H Q _ => ∃ a n k d p c v b, vs = [.ref a, v] ∧ HouseAt H a n k d p c ∧ SessV K H d p v b ∧ GxR.TabG H Pm ∧ GxR.TabG H Ps ∧ ∀ H2, Ks K H H2 → Q (.bl b) H2
theorem ok_is_session {f fD fS c Pm Ps : Addr} {fd fdD fdS : FuncData} (F : FnP K "is_session" s_is_session f fd) (B : Blt mg) (hall : mg "all" = none) (CA : CodeAt K mg base fd c Ps) (TD : Fn P w K mg base CX0 2 "is_drawer" ["house", "value"] (spDrawer K) fD fdD) (TS : Fn P w K mg base (L2.CX P w) 7 "is_story" ["house", "value"] (spIsStory K Pm) fS fdS) :
    FnOk P w K mg base (L2.CX P w) 8 f fd ["house", "value"] (spSession K Pm Ps) := by
  obtain ⟨oc, od, dV, kV, doc, pm, an, cdv, ct, osl, rfl, lk, hcd, _, _⟩ := F.ex
  obtain rfl : cdv = .ref c := CA.e
  refine fn_of (k := 7) lk hcd sc_is_session (fun vs H Q E h => ?_) (fun A outer s H vs Q E hr h => ?_)
  · obtain ⟨a, n, k, d, p, c, v, b, rfl, _⟩ := h
    rfl
  · obtain ⟨a, n, k, d, p, c', v, b, rfl, h, hv, hT, hT2, q⟩ := h
    refine ⟨_, (pss_cons (ps_if (PW.pt (pw_or (pt_not (pt_val (pe_callB call_isS (by rfl) B.isinstance (by decide +kernel) (pa_cons (pv 1) (pa_cons (pe_ty "tuple" (by rfl) B.tuple (by decide +kernel)) pa_nil))))) (pw_or1 (pt_cmpR op_ne (pe_callB call_len_seq (by rfl) B.len (by decide +kernel) (pa_cons (pv 1) pa_nil)) pe_int (nomark _))))) (pss_one (ps_ret pe_bl)) pss_nil)
    (pss_cons (ps_asg (pv 1) (pg_tup rfl (pgs_cons (pg_name (i := 2) sc_is_session.nd rfl (Or.inr rfl)) (pgs_cons (pg_name (i := 3) sc_is_session.nd rfl (Or.inl rfl)) pgs_nil))))
    (pss_cons (ps_if (PW.pt (pw_or (pt_not (pt_val (pe_call TD.G (hr.mono (by decide)) (by rfl) TD.m TD.k TD.b .nil pass0 (pa_cons (pv 0) (pa_cons (pv 2) pa_nil))))) (pw_or1 (pt_not (pt_val (pe_call TS.G hr (by rfl) TS.m TS.k TS.b .nil (passX (E := E) rfl rfl rfl rfl) (pa_cons (pv 0) (pa_cons (pv 3) pa_nil)))))))) (pss_one (ps_ret pe_bl)) pss_nil)
    (pss_one (ps_ret (pe_allG2 (own := [("moment", 4), ("deed", 5)]) (vs2 := [5]) (g := gName 4) (g2 := gName 5) (k := 6) hr (by rfl) hall CA.tb rfl (genOk_by (by rfl)) sc_is_session.nd (pi_tup (pv 3)) (fun A s H code fp pn r => pg_name (i := 4) sc_is_session.nd rfl (Or.inl rfl)) (fun A s H code fp pn r => pts_nil)
      (fun A s H code fp pn r => pe_cmpR op_le (pe_ix (ix_tup : IxR _ (rIxT K)) (pv 5) pe_int (fun _ _ => rfl)) (pv 2) (nomark _)) (fun A s H code fp pn r => (pi_tup (pv 4) : PI _ _ _ (iTup K (tVar 4)))) (fun A s H code fp pn r => pg_name (i := 5) sc_is_session.nd rfl (Or.inl rfl)) (fun A s H code fp pn r => pts_nil) (fun σ => by show (((σ.set 5 none).set 5 none).set 4 none) = _; rw [List.set_set] <;> rfl))))))), ?_⟩
    cases hv with
    | @out v sk hk e =>
      refine ⟨_, rfl, _, _, "tuple", _, rfl, hk.ty, hk.isT, _, rfl, ?_⟩
      rw [e]
      exact iteT (iteT (q H Ks.refl))
    | @len t xs ht hl =>
      refine ⟨_, rfl, _, _, "tuple", _, rfl, (KindV.tup ht).ty, (KindV.tup (K := K) ht).isT, _, rfl, iteF ?_⟩
      refine ⟨_, rfl, t, xs, rfl, .inr (SqT.of ht), rfl, _, rfl, ?_⟩
      have e : (!decide (V.int (xs.length : Int) = V.int 2)) = true := by
        rw [decide_eq_false (fun z => hl (by injection z with z; omega))] <;> rfl
      rw [e]
      exact iteT (q H Ks.refl)
    | @bad t u v sk o ht ku sv hb =>
      refine ⟨_, rfl, _, _, "tuple", _, rfl, (KindV.tup ht).ty, (KindV.tup (K := K) ht).isT, _, rfl, iteF ?_⟩
      refine ⟨_, rfl, t, _, rfl, .inr (SqT.of ht), rfl, _, rfl, iteF ⟨_, rfl, t, _, rfl, SqT.of ht, rfl, _, _, rfl, _, _, rfl, rfl, ?_⟩⟩
      refine ⟨.ref a, rfl, u, rfl, a, n, k, d, p, c', u, sk, rfl, h, ku, _, rfl, ?_⟩
      cases eu : isNum u 0 ((d : Int) - 1) with
      | false => exact iteT (iteT (q H Ks.refl))
      | true =>
        rw [eu, Bool.true_and] at hb
        refine iteF ⟨.ref a, rfl, v, rfl, a, n, k, d, p, c', v, o, rfl, h, sv, hT, fun H2 ks tg => ⟨_, rfl, ?_⟩⟩
        rw [hb]
        exact iteT (q H2 ks)
    | @good t u v o b ht hu sv ho lo =>
      refine ⟨_, rfl, _, _, "tuple", _, rfl, (KindV.tup ht).ty, (KindV.tup (K := K) ht).isT, _, rfl, iteF ?_⟩
      refine ⟨_, rfl, t, _, rfl, .inr (SqT.of ht), rfl, _, rfl, iteF ⟨_, rfl, t, _, rfl, SqT.of ht, rfl, _, _, rfl, _, _, rfl, rfl, ?_⟩⟩
      refine ⟨.ref a, rfl, .int u, rfl, a, n, k, d, p, c', .int u, _, rfl, h, .int u, _, rfl, ?_⟩
      rw [hu]
      refine iteF ⟨.ref a, rfl, v, rfl, a, n, k, d, p, c', v, o, rfl, h, sv, hT, fun H2 ks tg => ⟨_, rfl, ?_⟩⟩
      rw [ho]
      obtain ⟨t2, ms, bs, rfl, hm, rfl, hp⟩ := lo
      refine iteF ⟨.ref t2, rfl, t2, rfl, ⟨ms, SqT.of (ks.t _ _ hm)⟩, ks.g _ hT2, fun H3 tb => ?_⟩
      have k3 := ks.trans (Ks.tab CA.sk (ks.g _ hT2) tb)
      have hlen := Paired.length hp
      refine gt_tup2 (xs := ms) (k2 := 4) (g := gName 4) (g2 := gName 5) (K := K) 6 (fun _ i G => Ks K H G ∧ (bs.take i).all id = true) (fun _ i j G => Ks K H G ∧ (bs.take i).all id = true ∧ ∃ t ds cs, ms[i]? = some (.ref t) ∧ H t = some (.tup ds) ∧ Paired (DeedLow H u) ds cs ∧ bs[i]? = some (cs.all id) ∧ (cs.take j).all id = true)
        (fun _ i G _ w => SqT.of (w.1.t _ _ hm)) (fun _ i x G hx w => ?_) (fun x σ G Q1 Q2 hq h1 => hq _ _ h1) (fun _ G w => ?_) (c0 := ()) ⟨k3, rfl⟩
      · obtain ⟨kG, al⟩ := w
        obtain ⟨bi, eb, t3, ds, cs, rfl, hd, hl6, rfl, hc⟩ := paired_at hp hx
        refine ⟨rfl, t3, ds, rfl, SqT.of (kG.t _ _ hd), hl6, ⟨kG, al, t3, ds, cs, hx, hd, hc, eb, rfl⟩, fun _ j G' w => ?_, fun _ G' w => ?_, fun _ j y G' hy w => ?_⟩
        · exact SqT.of (w.1.t _ _ hd)
        · obtain ⟨kG', al', t4, ds', cs', hx', hd', hc', eb', al2⟩ := w
          rw [hx] at hx'
          cases hx'
          rw [hd] at hd'
          cases hd'
          have l1 := Paired.length hc'
          rw [l1, List.take_length] at al2
          refine ⟨kG', ?_⟩
          rw [List.take_succ, eb', List.all_append, al', al2] <;> rfl
        · obtain ⟨kG', al', t4, ds', cs', hx', hd', hc', eb', al2⟩ := w
          rw [hx] at hx'
          cases hx'
          rw [hd] at hd'
          cases hd'
          obtain ⟨z, ez, t5, y0, ys0, rfl, h5, rfl⟩ := paired_at hc' hy
          refine ⟨rfl, t_yes ⟨.ref t5, rfl, t5, _, _, .int y0, rfl, rfl, SqT.of (kG'.t _ _ h5), atI_nat (j := 0) rfl, .int u, rfl, _, _, rfl, rfl, _, rfl, fun z => ?_, fun z => ?_⟩⟩
          · refine ⟨kG', al', t3, ds, cs', hx, hd, hc', eb', ?_⟩
            rw [List.take_succ, ez, z, List.all_append, al2] <;> rfl
          · have f1 : cs'.all id = false := by
              rw [List.all_eq_false]
              exact ⟨_, List.mem_of_getElem? ez, by rw [z]; decide⟩
            have f2 : bs.all id = false := by
              rw [List.all_eq_false]
              exact ⟨_, List.mem_of_getElem? eb', by rw [f1]; decide⟩
            rw [f2] at q
            exact q G' kG'
      · obtain ⟨kG, al⟩ := w
        rw [hlen, List.take_length] at al
        rw [al] at q
        exact q G kG
end
end K01

set_option maxHeartbeats 4000000
namespace K01
open PySem PySem.Spec PyProof.Rows L2 Hd Evl
/-! ### lives -/
section
variable {K : PySem.W.Frag} {H H' : Hp} {d p : Nat} {u : Int} {v : V} {b : Bool}
theorem StoryV.kw {o : Option (List Bool)} (h : StoryV K H d p v o) (e : Kw H H') : StoryV K H' d p v o := by
  cases h with
  | out h hs => exact .out (h.kw e) hs
  | long h hl => exact .long (e.t _ _ h) hl
  | tup h hl hb => exact .tup (e.t _ _ h) hl (paired_imp (fun _ _ q => q.kw e) hb)
theorem StoryV.ks {S : Addr → Prop} {o : Option (List Bool)} (h : StoryV K H d p v o) (e : Kl S H H') : StoryV K H' d p v o := h.kw e.w
theorem StoryLow.kw (h : StoryLow H u v b) (e : Kw H H') : StoryLow H' u v b := by
  obtain ⟨t, ms, bs, h1, h2, h3, h4⟩ := h
  refine ⟨t, ms, bs, h1, e.t _ _ h2, h3, paired_imp (fun m c hm => ?_) h4⟩
  obtain ⟨t', ds, cs, a1, a2, a3, a4, a5⟩ := hm
  refine ⟨t', ds, cs, a1, e.t _ _ a2, a3, a4, paired_imp (fun x z hz => ?_) a5⟩
  obtain ⟨t'', y, ys, b1, b2, b3⟩ := hz
  exact ⟨t'', y, ys, b1, e.t _ _ b2, b3⟩
theorem StoryLow.ks {S : Addr → Prop} (h : StoryLow H u v b) (e : Kl S H H') : StoryLow H' u v b := h.kw e.w
theorem SessV.kw (h : SessV K H d p v b) (e : Kw H H') : SessV K H' d p v b := by
  cases h with
  | out h hs => exact .out (h.kw e) hs
  | len h hl => exact .len (e.t _ _ h) hl
  | bad h ku sv hb => exact .bad (e.t _ _ h) (ku.kw e) (sv.kw e) hb
  | good h hu sv ho lo => exact .good (e.t _ _ h) hu (sv.kw e) ho (lo.kw e)
theorem SessV.ks {S : Addr → Prop} (h : SessV K H d p v b) (e : Kl S H H') : SessV K H' d p v b := h.kw e.w
theorem SessL.kw {l : Nat} (h : SessL H v l) (e : Kw H H') : SessL H' v l := by
  obtain ⟨t, dp, w, us, h1, h2, h3, h4⟩ := h
  exact ⟨t, dp, w, us, h1, e.t _ _ h2, e.t _ _ h3, h4⟩
theorem SessL.ks {S : Addr → Prop} {l : Nat} (h : SessL H v l) (e : Kl S H H') : SessL H' v l := h.kw e.w
end
/-- a session, whether it is one, and then how many moments it has -/
def SessN (K : PySem.W.Frag) (H : Hp) (d p : Nat) (v : V) (x : Bool × Nat) : Prop := SessV K H d p v x.1 ∧ (x.1 = true → SessL H v x.2)
theorem SessN.kw {K : PySem.W.Frag} {H H' : Hp} {d p : Nat} {v : V} {x : Bool × Nat} (h : SessN K H d p v x) (e : Kw H H') : SessN K H' d p v x := ⟨h.1.kw e, fun z => (h.2 z).kw e⟩
theorem SessN.ks {S : Addr → Prop} {K : PySem.W.Frag} {H H' : Hp} {d p : Nat} {v : V} {x : Bool × Nat} (h : SessN K H d p v x) (e : Kl S H H') : SessN K H' d p v x := h.kw e.w
inductive LifeV (K : PySem.W.Frag) (H : Hp) (d p : Nat) : V → Option (List (Bool × Nat)) → Prop
  | out {v : V} {s : String} (h : KindV K H v s) (hs : isK s "tuple" = false) : LifeV K H d p v none
  | len {a : Addr} {xs : List V} (h : H a = some (.tup xs)) (hl : xs.length = 0 ∨ 6 < xs.length) : LifeV K H d p (.ref a) none
  | tup {a : Addr} {xs : List V} {l : List (Bool × Nat)} (h : H a = some (.tup xs)) (h1 : 1 ≤ xs.length) (h6 : xs.length ≤ 6) (hb : Paired (SessN K H d p) xs l) : LifeV K H d p (.ref a) (some l)
theorem LifeV.kw {K : PySem.W.Frag} {H H' : Hp} {d p : Nat} {v : V} {o : Option (List (Bool × Nat))} (h : LifeV K H d p v o) (e : Kw H H') : LifeV K H' d p v o := by
  cases h with
  | out h hs => exact .out (h.kw e) hs
  | len h hl => exact .len (e.t _ _ h) hl
  | tup h h1 h6 hb => exact .tup (e.t _ _ h) h1 h6 (paired_imp (fun _ _ q => q.kw e) hb)
def GoodL (l : List (Bool × Nat)) (i : Nat) : Prop := (l.take i).all (·.1) = true ∧ ((l.take i).map (·.2)).sum ≤ 40
section
variable {CX : CXT} {P : Program} {w : World} {K : PySem.W.Frag} {mg : Str → Option Value} {base : Heap} {CB CN CL : Addr}
def spLife (K : PySem.W.Frag) (CL Pm Ps : Addr) : Sp := fun vs H Q E => ∃ a n k d p c v o, vs = [.ref a, v] ∧ HouseAt H a n k d p c ∧ LifeV K H d p v o ∧ GxR.TabG H Pm ∧ GxR.TabG H Ps ∧ (o = none → Out K CL "index" Pm E H .non) ∧
  ∀ l, o = some l → (GoodL l l.length → ∀ H2, Ks K H H2 → Q .non H2) ∧ ∀ i : Nat, GoodL l i → (∀ x, l[i]? = some x → x.1 = false ∨ ¬ GoodL l (i + 1)) → i < l.length → Out K CL "index" Pm E H (.int i)
theorem ok_check_life {f fS Pm Ps : Addr} {fd fdS : FuncData} {t6 t40 : Tok} (F : FnP K "check_life" s_check_life f fd) (B : Blt mg) (h6 : mg "MOST_SESSIONS" = some (.int 6 t6)) (h40 : mg "MOST_MOMENTS" = some (.int 40 t40)) (TS : Fn P w K mg base (L2.CX P w) 8 "is_session" ["house", "value"] (spSession K Pm Ps) fS fdS) (EL : ErrF P w K mg base "BadLife" "index" CL) :
    FnOk P w K mg base (L2.CX P w) 9 f fd ["house", "life"] (spLife K CL Pm Ps) := by
  refine F.ok (CX := L2.CX P w) sc_check_life (fun vs H Q E h => ?_) (fun cdv A outer s H vs Q E hr h => ?_)
  · obtain ⟨a, n, k, d, p, c, v, o, rfl, _⟩ := h
    rfl
  · obtain ⟨a, n, k, d, p, c, v, o, rfl, h, hv, hT, hT2, q1, q2⟩ := h
    have h2 := hr.mono (show 2 ≤ 8 by decide)
    refine ⟨_, (pss_cons (ps_if (PW.pt (pw_or (pt_not (pt_val (pe_callB call_isS (by rfl) B.isinstance (by decide +kernel) (pa_cons (pv 1) (pa_cons (pe_ty "tuple" (by rfl) B.tuple (by decide +kernel)) pa_nil))))) (pw_or1 (pt_not (pt_chain op_le op_le pe_int (pe_callB call_len_seq (by rfl) B.len (by decide +kernel) (pa_cons (pv 1) pa_nil)) (pe_glob (v := .int 6) rfl h6 ⟨t6, rfl⟩)))))) (pss_one (ps_raiseF EL rfl h2 (takes_of (E := E) rfl rfl rfl rfl) (by rfl) (pa_cons pe_non pa_nil))) pss_nil)
    (pss_cons (ps_set (i := 2) sc_check_life.nd rfl (Or.inl rfl) pe_int)
    (pss_one (ps_for (passes_of rfl) rfl (pi_enumT (by rfl) B.enumerate (pa_cons (pv 1) pa_nil)) (pg_tup rfl (pgs_cons (pg_name (i := 3) sc_check_life.nd rfl (Or.inl rfl)) (pgs_cons (pg_name (i := 4) sc_check_life.nd rfl (Or.inl rfl)) pgs_nil))) (pss_cons (ps_if (pt_not (pt_val (pe_call TS.G hr (by rfl) TS.m TS.k TS.b .nil (passX (E := E) rfl rfl rfl rfl) (pa_cons (pv 0) (pa_cons (pv 4) pa_nil))))) (pss_one (ps_raiseF EL rfl h2 (takes_of (E := E) rfl rfl rfl rfl) (by rfl) (pa_cons (pv 3) pa_nil))) pss_nil)
    (pss_cons (ps_aug (i := 2) sc_check_life.nd rfl (Or.inl rfl) (pe_callB call_len_seq (by rfl) B.len (by decide +kernel) (pa_cons (pe_ix ix_tup (pv 4) pe_int (fun _ _ => rfl)) pa_nil)) ip_add)
    (pss_one (ps_if (pt_cmpR op_gt (pv 2) (pe_glob (v := .int 40) rfl h40 ⟨t40, rfl⟩) (nomark _)) (pss_one (ps_raiseF EL rfl h2 (takes_of (E := E) rfl rfl rfl rfl) (by rfl) (pa_cons (pv 3) pa_nil))) pss_nil)))))))), ?_⟩
    cases hv with
    | @out v sk hk e =>
      refine ⟨_, rfl, _, _, "tuple", _, rfl, hk.ty, hk.isT, _, rfl, ?_⟩
      rw [e]
      exact iteT (iteT ⟨.non, rfl, fun dd H2 e n x => q1 rfl dd H2 (Ks.ex e) (tab_ex hT e) x⟩)
    | @len t xs ht hl =>
      refine ⟨_, rfl, _, _, "tuple", _, rfl, (KindV.tup ht).ty, (KindV.tup (K := K) ht).isT, _, rfl, iteF ?_⟩
      refine ⟨_, rfl, t, xs, rfl, .inr (SqT.of ht), _, _, rfl, rfl, _, rfl, ite2 (fun e1 => ⟨_, _, rfl, rfl, _, rfl, ?_⟩) (fun e1 => ⟨_, rfl, iteT ⟨.non, rfl, fun dd H2 e n x => q1 rfl dd H2 (Ks.ex e) (tab_ex hT e) x⟩⟩)⟩
      have l1 := of_decide_eq_true e1
      rw [decide_eq_false (show ¬ (xs.length : Int) ≤ 6 by omega)]
      exact iteT ⟨.non, rfl, fun dd H2 e n x => q1 rfl dd H2 (Ks.ex e) (tab_ex hT e) x⟩
    | @tup t xs l ht g1 g6 hb =>
      refine ⟨_, rfl, _, _, "tuple", _, rfl, (KindV.tup ht).ty, (KindV.tup (K := K) ht).isT, _, rfl, iteF ?_⟩
      refine ⟨_, rfl, t, xs, rfl, .inr (SqT.of ht), _, _, rfl, rfl, _, rfl, ite2 (fun e1 => ⟨_, _, rfl, rfl, _, rfl, ?_⟩) (fun e1 => absurd (decide_eq_true (show (1 : Int) ≤ (xs.length : Int) by omega)) e1)⟩
      rw [decide_eq_true (show (xs.length : Int) ≤ 6 by omega)]
      obtain ⟨qn, qi⟩ := q2 l rfl
      have hlen := Paired.length hb
      refine iteF ⟨.ref t, rfl, t, xs, rfl, SqT.of ht, ?_⟩
      refine for_enumT (xs := xs) (fun i σ G => ∃ y3 y4 : Option V, σ = [some (.ref a), some (.ref t), some (.int (((l.take i).map (·.2)).sum : Nat)), y3, y4] ∧ Ks K H G ∧ GoodL l i) ⟨none, none, rfl, Ks.refl, rfl, Nat.zero_le _⟩ (fun i σ G _ w => by obtain ⟨_, _, _, ks, _⟩ := w; exact SqT.of (ks.t _ _ ht)) (fun i x σ G T2 hx w nT => ?_) (fun σ G w => ?_)
      · obtain ⟨y3, y4, rfl, ks, gd⟩ := w
        obtain ⟨⟨b, m⟩, eb, sv, sl⟩ := paired_at hb hx
        have hi : i < l.length := (List.getElem?_eq_some_iff.mp eb).1
        have e1 := Ex.new (o := .tup [V.int (i : Nat), x]) nT
        have k1 := ks.trans (Ks.ex e1)
        have es : ((l.take (i + 1)).map (·.2)).sum = ((l.take i).map (·.2)).sum + m := by
          rw [List.take_succ, eb, List.map_append, List.sum_append] <;> simp
        refine ⟨T2, _, rfl, SqT.of upd_same, rfl, _, _, rfl, _, _, rfl, rfl, ?_⟩
        refine ⟨.ref a, rfl, x, rfl, a, n, k, d, p, c, x, b, rfl, h.ks k1, sv.ks k1, k1.g _ hT, k1.g _ hT2, fun G2 k2 => ⟨b, rfl, ?_⟩⟩
        have k12 := k1.trans k2
        cases b with
        | false => exact iteT ⟨.int i, rfl, .int i, rfl, fun dd H2 e nd xd => qi i gd (fun x ex => .inl (by rw [eb] at ex; cases ex; rfl)) hi dd H2 (k12.trans (Ks.ex e)) (tab_ex (k12.g _ hT) e) xd⟩
        | true =>
          obtain ⟨t3, dp, u, us, rfl, s1, s2, s3⟩ := sl rfl
          refine iteF ⟨_, rfl, .ref t3, rfl, t3, _, _, .ref u, rfl, rfl, SqT.of (k12.t _ _ s1), atI_nat (j := 1) rfl, u, us, rfl, .inr (SqT.of (k12.t _ _ s2)), _, _, rfl, rfl, ?_⟩
          refine ⟨_, rfl, _, _, rfl, rfl, _, rfl, ite2 (fun e4 => ?_) (fun e4 => ?_)⟩
          · have big : ¬ GoodL l (i + 1) := fun z => by
              have z2 := z.2
              have q4 : (40 : Int) < ((((l.take i).map (·.2)).sum : Nat) : Int) + (us.length : Int) := of_decide_eq_true e4
              rw [es] at z2
              omega
            exact ⟨.int i, rfl, .int i, rfl, fun dd H2 e nd xd => qi i gd (fun x ex => .inr big) hi dd H2 (k12.trans (Ks.ex e)) (tab_ex (k12.g _ hT) e) xd⟩
          · refine ⟨some (.int i), some (.ref t3), ?_, k12, ?_, ?_⟩
            · rw [es]
              show _ = [some (V.ref a), some (.ref t), some (.int ((((l.take i).map (·.2)).sum + m : Nat) : Int)), some (.int i), some (.ref t3)]
              rw [show ((((l.take i).map (·.2)).sum + m : Nat) : Int) = ((((l.take i).map (·.2)).sum : Nat) : Int) + (us.length : Int) by omega] <;> rfl
            · rw [List.take_succ, eb, List.all_append, gd.1] <;> rfl
            · rw [es]
              have : ¬ (40 : Int) < ((((l.take i).map (·.2)).sum : Nat) : Int) + (us.length : Int) := fun z => e4 (decide_eq_true z)
              omega
      · obtain ⟨y3, y4, rfl, ks, gd⟩ := w
        rw [hlen] at gd
        exact qn gd G ks
end
end K01

set_option maxHeartbeats 4000000
namespace K01
open PySem PySem.Spec PyProof.Rows L2 Hd Evl
/-! ### data: numbers, deeds, moments, stories, sessions, lives -/
def isTupD : PyData → Bool
  | .tuple _ => true
  | _ => false
def numD : PyData → Int → Int → Bool
  | .int i, lo, hi => decide (lo ≤ i) && decide (i ≤ hi)
  | _, _, _ => false
def deedD (d p : Nat) : PyData → Bool
  | .tuple [x, y, z] => numD x 0 ((d : Int) - 1) && (numD y 0 ((p : Int) - 1) && numD z 0 9)
  | _ => false
def momD (d p : Nat) : PyData → Bool
  | .tuple xs => decide (xs.length ≤ 6) && (xs.map (deedD d p)).all id
  | _ => false
def storyD (d p : Nat) : PyData → Option (List Bool)
  | .tuple ms => if ms.length ≤ 40 then some (ms.map (momD d p)) else none
  | _ => none
def lowD (u : Int) : PyData → Bool
  | .tuple (.int y :: _) => decide (y ≤ u)
  | _ => false
def momLowD (u : Int) : PyData → Bool
  | .tuple ds => (ds.map (lowD u)).all id
  | _ => false
def storyLowD (u : Int) : PyData → Bool
  | .tuple ms => (ms.map (momLowD u)).all id
  | _ => false
def intD : PyData → Int
  | .int i => i
  | _ => 0
def sessD (d p : Nat) : PyData → Bool
  | .tuple [u, s] => (numD u 0 ((d : Int) - 1) && okS (storyD d p s)) && storyLowD (intD u) s
  | _ => false
def sessLen : PyData → Nat
  | .tuple [_, .tuple ms] => ms.length
  | _ => 0
def lifeD (d p : Nat) : PyData → Option (List (Bool × Nat))
  | .tuple ss => if 1 ≤ ss.length ∧ ss.length ≤ 6 then some (ss.map fun s => (sessD d p s, sessLen s)) else none
  | _ => none
section
variable {K : PySem.W.Frag} {r : Addr} {H : Hp} {d p : Nat} {v : V} {e : PyData}
theorem dv_kind (h : Dv r H v e) : ∃ s, KindV K H v s ∧ isK s "tuple" = isTupD e := by
  cases h with
  | non => exact ⟨_, .non, (by decide : isK "NoneType" "tuple" = false)⟩
  | bl b => exact ⟨_, .bl b, (by decide : isK "bool" "tuple" = false)⟩
  | int i => exact ⟨_, .int i, (by decide : isK "int" "tuple" = false)⟩
  | str x => exact ⟨_, .str x, (by decide : isK "str" "tuple" = false)⟩
  | lst n h _ => exact ⟨_, .lst h, (by decide : isK "list" "tuple" = false)⟩
  | tup h _ => exact ⟨_, .tup h, (by decide : isK "tuple" "tuple" = true)⟩
theorem dv_k (h : Dv r H v e) : ∃ s, KindV K H v s := let ⟨s, k, _⟩ := dv_kind h; ⟨s, k⟩
theorem dv_num (h : Dv r H v e) {lo hi : Int} : isNum v lo hi = numD e lo hi := by cases h <;> rfl
theorem dv_kinds {xs : List V} {ds : List PyData} (h : DvAll r H xs ds) : ∀ x ∈ xs, ∃ s, KindV K H x s := fun x hx => by
  obtain ⟨i, hi⟩ := List.mem_iff_getElem?.mp hx
  obtain ⟨d, _, q⟩ := h.at_ hi
  exact dv_k q
theorem dv_deed (h : Dv r H v e) : DeedV K H d p v (deedD d p e) := by
  cases h with
  | non => exact .out .non (by decide)
  | bl b => exact .out (.bl b) (by decide)
  | int i => exact .out (.int i) (by decide)
  | str x => exact .out (.str x) (by decide)
  | lst n h _ => exact .out (.lst h) (by decide)
  | @tup a xs ds h all =>
    have e2 : deedB d p xs = deedD d p (.tuple ds) := by
      match xs, ds, all with
      | [], [], _ => rfl
      | [_], [_], _ => rfl
      | [_, _], [_, _], _ => rfl
      | [x, y, z], [a, b, c], .cons h1 (.cons h2 (.cons h3 .nil)) =>
        show (isNum x 0 ((d : Int) - 1) && (isNum y 0 ((p : Int) - 1) && isNum z 0 9)) = (numD a 0 ((d : Int) - 1) && (numD b 0 ((p : Int) - 1) && numD c 0 9))
        rw [dv_num h1, dv_num h2, dv_num h3]
      | _ :: _ :: _ :: _ :: _, _ :: _ :: _ :: _ :: _, _ => rfl
    rw [← e2]
    exact .tup h (dv_kinds all)
theorem paired_map {α β γ : Type} {R : α → β → Prop} {S : α → γ → Prop} (f : β → γ) (g : ∀ a b, R a b → S a (f b)) : ∀ {xs : List α} {ys : List β}, Paired R xs ys → Paired S xs (ys.map f)
  | _, _, .nil => .nil
  | _, _, .cons h t => .cons (g _ _ h) (paired_map f g t)
theorem dv_mom (h : Dv r H v e) : MomentV K H d p v (momD d p e) := by
  cases h with
  | non => exact .out .non (by decide)
  | bl b => exact .out (.bl b) (by decide)
  | int i => exact .out (.int i) (by decide)
  | str x => exact .out (.str x) (by decide)
  | lst n h _ => exact .out (.lst h) (by decide)
  | @tup a xs ds h all =>
    have e2 : (decide (xs.length ≤ 6) && (ds.map (deedD d p)).all id) = momD d p (.tuple ds) := by rw [all.len] <;> rfl
    rw [← e2]
    exact .tup h (paired_map _ (fun _ _ q => dv_deed q) all.pair)
theorem dv_story (h : Dv r H v e) : StoryV K H d p v (storyD d p e) := by
  cases h with
  | non => exact .out .non (by decide)
  | bl b => exact .out (.bl b) (by decide)
  | int i => exact .out (.int i) (by decide)
  | str x => exact .out (.str x) (by decide)
  | lst n h _ => exact .out (.lst h) (by decide)
  | @tup a xs ds h all =>
    by_cases hl : ds.length ≤ 40
    · have e2 : storyD d p (.tuple ds) = some (ds.map (momD d p)) := if_pos hl
      rw [e2]
      exact .tup h (by rw [all.len]; exact hl) (paired_map _ (fun _ _ q => dv_mom q) all.pair)
    · have e2 : storyD d p (.tuple ds) = none := if_neg hl
      rw [e2]
      exact .long h (by rw [all.len]; omega)
/-! #### what a good story is -/
theorem okS_some {o : Option (List Bool)} (h : okS o = true) : ∃ bs, o = some bs ∧ bs.all id = true := by
  cases o with
  | none => cases h
  | some bs => exact ⟨bs, rfl, h⟩
theorem story_tup {e : PyData} (h : okS (storyD d p e) = true) : ∃ ms, e = .tuple ms ∧ ms.length ≤ 40 ∧ ∀ m ∈ ms, momD d p m = true := by
  obtain ⟨bs, e1, e2⟩ := okS_some h
  cases e with
  | tuple ms =>
    by_cases hl : ms.length ≤ 40
    · have e3 : storyD d p (.tuple ms) = some (ms.map (momD d p)) := if_pos hl
      rw [e3] at e1
      obtain rfl := Option.some.inj e1
      refine ⟨ms, rfl, hl, fun m hm => ?_⟩
      exact List.all_eq_true.mp e2 _ (List.mem_map_of_mem hm)
    · have e3 : storyD d p (.tuple ms) = none := if_neg hl
      rw [e3] at e1
      cases e1
  | _ => cases e1
theorem mom_tup {m : PyData} (h : momD d p m = true) : ∃ ds, m = .tuple ds ∧ ds.length ≤ 6 ∧ ∀ x ∈ ds, deedD d p x = true := by
  cases m with
  | tuple ds =>
    have h' : (decide (ds.length ≤ 6) && (ds.map (deedD d p)).all id) = true := h
    rw [Bool.and_eq_true] at h'
    exact ⟨ds, rfl, of_decide_eq_true h'.1, fun x hx => List.all_eq_true.mp h'.2 _ (List.mem_map_of_mem hx)⟩
  | _ => cases h
theorem deed_tup {x : PyData} (h : deedD d p x = true) : ∃ a b c : Nat, x = .tuple [.int a, .int b, .int c] ∧ a < d ∧ b < p ∧ c ≤ 9 := by
  have num : ∀ {y : PyData} {hi : Int}, numD y 0 hi = true → ∃ n : Nat, y = .int n ∧ (n : Int) ≤ hi := fun {y hi} q => by
    cases y with
    | int i =>
      have q' : (decide (0 ≤ i) && decide (i ≤ hi)) = true := q
      rw [Bool.and_eq_true] at q'
      have a := of_decide_eq_true q'.1
      have b := of_decide_eq_true q'.2
      exact ⟨i.toNat, by rw [Int.toNat_of_nonneg a], by omega⟩
    | _ => cases q
  cases x with
  | tuple ds =>
    match ds, h with
    | [x, y, z], h =>
      have h' : (numD x 0 ((d : Int) - 1) && (numD y 0 ((p : Int) - 1) && numD z 0 9)) = true := h
      rw [Bool.and_eq_true, Bool.and_eq_true] at h'
      obtain ⟨a, rfl, ha⟩ := num h'.1
      obtain ⟨b, rfl, hb⟩ := num h'.2.1
      obtain ⟨c, rfl, hc⟩ := num h'.2.2
      exact ⟨a, b, c, rfl, by omega, by omega, by omega⟩
  | _ => cases h
theorem dv_low {u : Int} {m : PyData} (h : Dv r H v m) (ok : deedD d p m = true) : DeedLow H u v (lowD u m) := by
  obtain ⟨a, b, c, rfl, _⟩ := deed_tup ok
  cases h with
  | tup h all =>
    cases all with
    | cons h1 h2 =>
      cases h1
      exact ⟨_, _, _, rfl, h, rfl⟩
theorem paired_mapM {α β γ : Type} {R : α → β → Prop} {S : α → γ → Prop} (f : β → γ) : ∀ {xs : List α} {ys : List β}, Paired R xs ys → (∀ a b, b ∈ ys → R a b → S a (f b)) → Paired S xs (ys.map f)
  | _, _, .nil, _ => .nil
  | _, _, .cons h t, g => .cons (g _ _ List.mem_cons_self h) (paired_mapM f t fun a b hb q => g a b (List.mem_cons_of_mem _ hb) q)
theorem dv_momLow {u : Int} {m : PyData} (h : Dv r H v m) (ok : momD d p m = true) : MomentLow H u v (momLowD u m) := by
  obtain ⟨ds, rfl, hl, hd⟩ := mom_tup ok
  cases h with
  | tup h all => exact ⟨_, _, _, rfl, h, by rw [all.len]; exact hl, rfl, paired_mapM _ all.pair fun a b hb q => dv_low q (hd b hb)⟩
theorem dv_storyLow {u : Int} {s : PyData} (h : Dv r H v s) (ok : okS (storyD d p s) = true) : StoryLow H u v (storyLowD u s) := by
  obtain ⟨ms, rfl, hl, hm⟩ := story_tup ok
  cases h with
  | tup h all => exact ⟨_, _, _, rfl, h, rfl, paired_mapM _ all.pair fun a b hb q => dv_momLow q (hm b hb)⟩
theorem dv_sess (h : Dv r H v e) : SessN K H d p v (sessD d p e, sessLen e) := by
  cases h with
  | non => exact ⟨.out .non (by decide), fun z => by cases z⟩
  | bl b => exact ⟨.out (.bl b) (by decide), fun z => by cases z⟩
  | int i => exact ⟨.out (.int i) (by decide), fun z => by cases z⟩
  | str x => exact ⟨.out (.str x) (by decide), fun z => by cases z⟩
  | lst n h _ => exact ⟨.out (.lst h) (by decide), fun z => by cases z⟩
  | @tup a xs ds h all =>
    match xs, ds, all with
    | [], [], _ => exact ⟨.len h (by simp), fun z => by cases z⟩
    | [_], [_], _ => exact ⟨.len h (by simp), fun z => by cases z⟩
    | _ :: _ :: _ :: _, _ :: _ :: _ :: _, _ => exact ⟨.len h (by simp), fun z => by cases z⟩
    | [x, y], [u, s], .cons h1 (.cons h2 .nil) =>
      obtain ⟨k1, g1⟩ := dv_k (K := K) h1
      cases eb : (numD u 0 ((d : Int) - 1) && okS (storyD d p s)) with
      | false =>
        have e2 : sessD d p (.tuple [u, s]) = false := by
          show ((numD u 0 ((d : Int) - 1) && okS (storyD d p s)) && storyLowD (intD u) s) = false
          rw [eb] <;> rfl
        rw [e2]
        exact ⟨.bad h g1 (dv_story h2) (by rw [dv_num h1]; exact eb), fun z => by cases z⟩
      | true =>
        have e2 : sessD d p (.tuple [u, s]) = storyLowD (intD u) s := by
          show ((numD u 0 ((d : Int) - 1) && okS (storyD d p s)) && storyLowD (intD u) s) = _
          rw [eb] <;> rfl
        rw [e2]
        rw [Bool.and_eq_true] at eb
        have hn := eb.1
        rw [← dv_num h1] at hn
        have ex := isNum_int hn
        obtain ⟨ms, rfl, hl, hm⟩ := story_tup eb.2
        cases h1 with
        | int i =>
          have lo := dv_storyLow (u := i) h2 eb.2
          refine ⟨.good h hn (dv_story h2) eb.2 lo, fun _ => ?_⟩
          cases h2 with
          | tup h3 a3 => exact ⟨_, _, _, _, rfl, h, h3, a3.len⟩
        | _ => cases hn
theorem dv_life (h : Dv r H v e) : LifeV K H d p v (lifeD d p e) := by
  cases h with
  | non => exact .out .non (by decide)
  | bl b => exact .out (.bl b) (by decide)
  | int i => exact .out (.int i) (by decide)
  | str x => exact .out (.str x) (by decide)
  | lst n h _ => exact .out (.lst h) (by decide)
  | @tup a xs ds h all =>
    have hl := all.len
    by_cases c : 1 ≤ ds.length ∧ ds.length ≤ 6
    · have e2 : lifeD d p (.tuple ds) = some (ds.map fun s => (sessD d p s, sessLen s)) := if_pos c
      rw [e2]
      exact .tup h (by omega) (by omega) (paired_map _ (fun _ _ q => dv_sess q) all.pair)
    · have e2 : lifeD d p (.tuple ds) = none := if_neg c
      rw [e2]
      exact .len h (by omega)
end
end K01

set_option maxHeartbeats 4000000
namespace K01
open PySem PySem.Spec PyProof.Rows L2 Hd Evl
/-! ### the law's draws -/
/-- all but the list at r stays -/
def Kq (r : Addr) (H H' : Hp) : Prop := ∀ b o, b ≠ r → H b = some o → H' b = some o
section
variable {r D : Addr} {H H1 H2 : Hp} {o : HO}
theorem Kq.refl : Kq r H H := fun _ _ _ h => h
theorem Kq.trans (a : Kq r H H1) (b : Kq r H1 H2) : Kq r H H2 := fun c u n h => b c u n (a c u n h)
theorem Kq.ex (e : Ex H H1) : Kq r H H1 := fun c u _ h => e _ _ h
theorem Kq.row : Kq r H (upd H r o) := fun c u n h => by rw [upd_ne n]; exact h
theorem Kq.put (k : Kq r H H1) (n : H D = none) : Kq r H (upd H1 D o) := fun c u m h => by
  rw [upd_ne (ne_of_none h n)]
  exact k c u m h
theorem Kq.kr (k : Kq r H H1) : Kr r H H1 := fun c u n _ h => k c u n h
end
structure Rw (K : PySem.W.Frag) (r a : Addr) (ns : List Int) (H : Hp) : Prop where
  row : ∃ i sd rs, H r = some (.lst (rowV a i sd rs)) ∧ 0 ≤ i ∧ 0 ≤ sd ∧ sd < 2147483647
  src : Src K r a ns H
section
variable {K : PySem.W.Frag} {r a D : Addr} {ns : List Int} {H H1 : Hp}
theorem Rw.ex (W : Rw K r a ns H) (e : Ex H H1) : Rw K r a ns H1 := by
  obtain ⟨i, sd, rs, h, b⟩ := W.row
  exact ⟨⟨i, sd, rs, e _ _ h, b⟩, W.src.ex e⟩
theorem Rw.upd (W : Rw K r a ns H) {i sd rs : Int} (h1 : 0 ≤ i) (h2 : 0 ≤ sd) (h3 : sd < 2147483647) : Rw K r a ns (upd H r (.lst (rowV a i sd rs))) := by
  obtain ⟨_, _, _, h, _⟩ := W.row
  exact ⟨⟨i, sd, rs, upd_same, h1, h2, h3⟩, W.src.row⟩
theorem Rw.lst (W : Rw K r a ns H) : ∃ xs, H r = some (.lst xs) := let ⟨_, _, _, h, _⟩ := W.row; ⟨_, h⟩
theorem Rw.notup (W : Rw K r a ns H) (xs : List V) : H r ≠ some (.tup xs) := fun e => by
  obtain ⟨ys, h⟩ := W.lst
  rw [h] at e
  cases e
theorem Rw.ne (W : Rw K r a ns H) (n : H D = none) : D ≠ r := fun e => by
  obtain ⟨ys, h⟩ := W.lst
  rw [e, h] at n
  cases n
/-- a fresh list D (fresh at G) has grown -/
theorem Rw.put {G : Hp} {xs ys : List V} (W : Rw K r a ns H) (W0 : Rw K r a ns G) (n : G D = none) (h : H D = some (.lst xs)) : Rw K r a ns (L2.upd H D (.lst ys)) := by
  obtain ⟨i, sd, rs, hr, b⟩ := W.row
  have nD := W0.ne n
  refine ⟨⟨i, sd, rs, by rw [upd_ne nD.symm]; exact hr, b⟩, ?_⟩
  have na : ∀ z : Addr, (∃ o, G z = some o) → z ≠ D := fun z ⟨o, e⟩ q => by rw [q, n] at e; cases e
  rcases W.src with q | ⟨m, q⟩
  · exact .inl q
  · rcases W0.src with q0 | ⟨m0, q0⟩
    · exact .inl q0
    · have ne : a ≠ D := by
        rcases q0 with z | ⟨u, z⟩
        · exact na _ ⟨_, z⟩
        · exact na _ ⟨_, z⟩
      refine .inr ⟨m, ?_⟩
      rcases q with z | ⟨u, z⟩
      · exact .inl (by rw [upd_ne ne]; exact z)
      · exact .inr ⟨u, by rw [upd_ne ne]; exact z⟩
theorem Dv.kq {v : V} {e : PyData} (h : Dv r H v e) (W : Rw K r a ns H) (k : Kq r H H1) : Dv r H1 v e := Hd.Dv.kr k.kr W.notup e v h
theorem taken_of (W : Rw K r a ns H) {m : Nat} {z : Int} {Q : VK} {E : XK} (e : z = (m : Int)) (h1 : 1 ≤ m) (h2 : m < 2 ^ 60) (q : ∀ (x : Nat) H', x < m → Kq r H H' → Rw K r a ns H' → Q (iV x) H') : spTaken K [.ref r, .int z] H Q E := by
  subst e
  obtain ⟨i, sd, rs, h, b1, b2, b3⟩ := W.row
  exact ⟨r, a, ns, i, sd, rs, m, rfl, h, W.src, b1, b2, b3, h1, h2, fun i' sd' rs' x c1 c2 c3 c4 => q x _ c4 Kq.row (W.upd c1 c2 c3)⟩
theorem HouseAt.kq {hs : Addr} {n k d p c : Nat} (h : HouseAt H hs n k d p c) (W : Rw K r a ns H) (e : Kq r H H1) : HouseAt H1 hs n k d p c := { h with at_ := e _ _ (fun z => W.notup _ (z ▸ h.at_)) h.at_ }
end
section
variable {CX : CXT} {P : Program} {w : World} {K : PySem.W.Frag} {mg : Str → Option Value} {base : Heap}
abbrev TakenF (P : Program) (w : World) (K : PySem.W.Frag) (mg : Str → Option Value) (base : Heap) (f : Addr) (fd : FuncData) : Prop := Fn P w K mg base CX0 1 "_law_taken" ["row", "many"] (spTaken K) f fd
/-! #### choices -/
theorem nck_step : ∀ n k : Fin 13, nck n k * (n - k) = nck n (k + 1) * (k + 1) := by decide +kernel
def spChoices : Sp := fun vs H Q _ => ∃ n k : Nat, vs = [iV n, iV k] ∧ n ≤ 12 ∧ k ≤ n ∧ Q (iV (nck n k)) H
theorem ok_choices {f : Addr} {fd : FuncData} (F : FnP K "_law_choices" s__law_choices f fd) (B : Blt mg) : FnOk P w K mg base CX 1 f fd ["many", "some"] spChoices := by
  refine F.ok (CX := CX) sc__law_choices (fun vs H Q E h => ?_) (fun cdv A outer s H vs Q E hr h => ?_)
  · obtain ⟨n, k, rfl, _⟩ := h
    rfl
  · obtain ⟨n, k, rfl, hn, hk, q⟩ := h
    refine ⟨_, (pss_cons (ps_if (pt_cmpR op_gt (pv 1) (pv 0) (nomark _)) (pss_one (ps_ret pe_int)) pss_nil)
    (pss_cons (ps_set (i := 2) sc__law_choices.nd rfl (Or.inl rfl) pe_int)
    (pss_cons (ps_for (passes_of rfl) rfl (pi_range1 (by rfl) B.range (pa_cons (pv 1) pa_nil)) (pg_name (i := 3) sc__law_choices.nd rfl (Or.inl rfl)) (pss_one (ps_set (i := 2) sc__law_choices.nd rfl (Or.inl rfl) (pe_op op_fdivW (pe_op op_mul (pv 2) (pe_op op_sub (pv 0) (pv 3))) (pe_op op_add (pv 3) pe_int)))))
    (pss_one (ps_ret (pv 2)))))), ?_⟩
    refine ⟨iV k, rfl, iV n, rfl, _, _, rfl, rfl, _, rfl, ?_⟩
    rw [decide_eq_false (show ¬ (n : Int) < (k : Int) by omega)]
    refine iteF ⟨iV k, rfl, k, rfl, by omega, by omega, for_range (lo := 0) (n := k) (fun i σ G => G = H ∧ ∃ y, σ = [some (iV n), some (iV k), some (iV (nck n i)), y]) ⟨rfl, none, by rw [nck_zero] <;> rfl⟩ (fun i σ G hi w => ?_) (fun σ G w => ?_)⟩
    · obtain ⟨rfl, y, rfl⟩ := w
      have st := nck_step ⟨n, by omega⟩ ⟨i, by omega⟩
      have st' : nck n i * (n - i) = nck n (i + 1) * (i + 1) := st
      have b1 := nck_le hn (show i ≤ 12 by omega)
      have wd : ∀ {z : Nat}, z < 2 ^ 20 → ((z : Nat) : Int).natAbs < 2 ^ 20 := fun h => by rw [Int.natAbs_natCast]; exact h
      refine ⟨iV (nck n i), rfl, iV n, rfl, .int (0 + (i : Int)), rfl, _, _, rfl, rfl, _, _, rfl, rfl, ?_, .int (0 + (i : Int)), rfl, _, _, rfl, rfl, _, _, rfl, rfl, ?_, rfl, some (.int (0 + (i : Int))), ?_⟩
      · exact .inl ⟨by omega, by omega⟩
      · exact wide_div (b := 20) (by omega) (by omega) (by decide) (by decide)
      · have e1 : ((nck n i : Nat) : Int) * ((n : Int) - (0 + (i : Int))) = ((nck n (i + 1) * (i + 1) : Nat) : Int) := by
          rw [← st', show (n : Int) - (0 + (i : Int)) = ((n - i : Nat) : Int) by omega]
          push_cast
          rfl
        have e2 : ((nck n i : Nat) : Int) * ((n : Int) - (0 + (i : Int))) / (0 + (i : Int) + 1) = ((nck n (i + 1) : Nat) : Int) := by
          rw [e1, show (0 : Int) + (i : Int) + 1 = ((i + 1 : Nat) : Int) by omega, ← Int.natCast_ediv, Nat.mul_div_cancel _ (by omega)]
        show [some (iV n), some (iV k), some (V.int (((nck n i : Nat) : Int) * ((n : Int) - (0 + (i : Int))) / (0 + (i : Int) + 1))), some (V.int (0 + (i : Int)))] = _
        rw [e2]
    · obtain ⟨rfl, y, rfl⟩ := w
      exact ⟨_, rfl, q⟩
/-! #### a house -/
structure HouseP (K : PySem.W.Frag) (vs : List V) (H : Hp) (Q : VK) : Prop where
  go : ∃ (r a : Addr) (ns : List Int) (most : Nat), vs = [.ref r, iV most] ∧ Rw K r a ns H ∧ 2 ≤ most ∧ most ≤ 12 ∧ ∀ (n k d p c : Nat) (hs : Addr) (H' : Hp), HouseAt H' hs n k d p c → n ≤ most → k ≤ 4 → d ≤ 3 → p ≤ 3 → c ≤ 2 → Kq r H H' → Rw K r a ns H' → Q (.ref hs) H'
def spHouse (K : PySem.W.Frag) : Sp := fun vs H Q _ => HouseP K vs H Q
theorem ok_house {f fT : Addr} {fd fdT : FuncData} (F : FnP K "_law_house" s__law_house f fd) (B : Blt mg) (T : TakenF P w K mg base fT fdT) : FnOk P w K mg base CX 2 f fd ["row", "most"] (spHouse K) := by
  refine F.ok (CX := CX) sc__law_house (fun vs H Q E h => ?_) (fun cdv A outer s H vs Q E hr h => ?_)
  · obtain ⟨r, a, ns, most, rfl, _⟩ := h
    rfl
  · obtain ⟨r, a, ns, most, rfl, W, h1, h2, q⟩ := h
    refine ⟨_, (pss_cons (ps_set (i := 2) sc__law_house.nd rfl (Or.inl rfl) (pe_op op_add pe_int (pe_call T.G hr (by rfl) T.m T.k T.b .nil pass0 (pa_cons (pv 0) (pa_cons (pe_op op_sub (pv 1) pe_int) pa_nil)))))
    (pss_one (ps_ret (pe_tup (pa_cons (pv 2) (pa_cons (pe_op op_add pe_int (pe_call T.G hr (by rfl) T.m T.k T.b .nil pass0 (pa_cons (pv 0) (pa_cons (pe_callB (call_min2 rfl) (by rfl) B.min (by decide +kernel) (pa_cons (pv 2) (pa_cons pe_int pa_nil))) pa_nil)))) (pa_cons (pe_op op_add pe_int (pe_call T.G hr (by rfl) T.m T.k T.b .nil pass0 (pa_cons (pv 0) (pa_cons pe_int pa_nil)))) (pa_cons (pe_op op_add pe_int (pe_call T.G hr (by rfl) T.m T.k T.b .nil pass0 (pa_cons (pv 0) (pa_cons pe_int pa_nil)))) (pa_cons (pe_op op_add pe_int (pe_call T.G hr (by rfl) T.m T.k T.b .nil pass0 (pa_cons (pv 0) (pa_cons pe_int pa_nil)))) pa_nil))))))))), ?_⟩
    refine ⟨.ref r, rfl, iV most, rfl, _, _, rfl, rfl, taken_of (m := most - 1) W (by omega) (by omega) (by omega) fun x1 H1 l1 k1 W1 => ⟨_, _, rfl, rfl, ?_⟩⟩
    obtain ⟨mn, hmn⟩ : ∃ mn : Nat, (if (4 : Int) < 2 + (x1 : Int) then (4 : Int) else 2 + (x1 : Int)) = (mn : Int) ∧ 1 ≤ mn ∧ mn ≤ 4 ∧ mn ≤ 2 + x1 := by
      by_cases z : (4 : Int) < 2 + (x1 : Int)
      · exact ⟨4, by rw [if_pos z] <;> rfl, by omega, by omega, by omega⟩
      · exact ⟨2 + x1, by rw [if_neg z]; omega, by omega, by omega, by omega⟩
    refine ⟨_, rfl, .ref r, rfl, _, rfl, _, _, rfl, taken_of (m := mn) W1 hmn.1 (by omega) (by omega) fun x2 H2 l2 k2 W2 => ⟨_, _, rfl, rfl, ?_⟩⟩
    refine ⟨.ref r, rfl, taken_of (m := 3) W2 rfl (by decide) (by decide) fun x3 H3 l3 k3 W3 => ⟨_, _, rfl, rfl, ?_⟩⟩
    refine ⟨.ref r, rfl, taken_of (m := 3) W3 rfl (by decide) (by decide) fun x4 H4 l4 k4 W4 => ⟨_, _, rfl, rfl, ?_⟩⟩
    refine ⟨.ref r, rfl, taken_of (m := 2) W4 rfl (by decide) (by decide) fun x5 H5 l5 k5 W5 => ⟨_, _, rfl, rfl, ?_⟩⟩
    refine ⟨by show 5 ≤ sizeLine; decide, fun t nt => ?_⟩
    have et := Ex.new (o := HO.tup [V.int (2 + (x1 : Nat)), V.int (1 + (x2 : Nat)), V.int (1 + (x3 : Nat)), V.int (1 + (x4 : Nat)), V.int (1 + (x5 : Nat))]) nt
    refine q (2 + x1) (1 + x2) (1 + x3) (1 + x4) (1 + x5) t _ ⟨upd_same.trans (by push_cast; rfl), by omega, by omega, by omega, by omega, by omega, by omega, by omega, by omega, by omega, by omega⟩ (by omega) (by omega) (by omega) (by omega) (by omega) ((k1.trans (k2.trans (k3.trans (k4.trans k5)))).trans (Kq.ex et)) (W5.ex et)
end
end K01

set_option maxHeartbeats 4000000
namespace K01
open PySem PySem.Spec PyProof.Rows L2 Hd Evl
section
variable {K : PySem.W.Frag} {r a : Addr} {ns : List Int} {H H1 : Hp}
theorem Kq.kt (k : Kq r H H1) (W : Rw K r a ns H) : Kt H H1 := fun b xs h => k _ _ (fun z => W.notup _ (z ▸ h)) h
end
section
variable {CX : CXT} {P : Program} {w : World} {K : PySem.W.Frag} {mg : Str → Option Value} {base : Heap}
/-! #### a moment -/
structure MomP (K : PySem.W.Frag) (vs : List V) (H : Hp) (Q : VK) : Prop where
  go : ∃ (r a hs : Addr) (ns : List Int) (n k d p c u most : Nat), vs = [.ref r, .ref hs, iV u, iV most] ∧ Rw K r a ns H ∧ HouseAt H hs n k d p c ∧ u < d ∧ most ≤ 2 ∧ ∀ (t : Addr) (m : MomT) (H' : Hp), Tv H' (.ref t) (momP m) → OkMom u p m → Kq r H H' → Rw K r a ns H' → Q (.ref t) H'
def spMom (K : PySem.W.Frag) : Sp := fun vs H Q _ => MomP K vs H Q
theorem ok_mom {f fT : Addr} {fd fdT : FuncData} (F : FnP K "_law_moment" s__law_moment f fd) (B : Blt mg) (T : TakenF P w K mg base fT fdT) : FnOk P w K mg base CX 2 f fd ["row", "house", "deepest", "most"] (spMom K) := by
  refine F.ok (CX := CX) sc__law_moment (fun vs H Q E h => ?_) (fun cdv A outer s H vs Q E hr h => ?_)
  · obtain ⟨r, a, hs, ns, n, k, d, p, c, u, most, rfl, _⟩ := h
    rfl
  · obtain ⟨r, a, hs, ns, n, k, d, p, c, u, most, rfl, W, hh, hu, hm, q⟩ := h
    refine ⟨_, (pss_one (ps_ret (pe_callTy call_tuple_of (by rfl) B.tuple (by decide +kernel) (pa_cons (pe_lc (own := [("k", 4)]) (g := gName 4) (by rfl) sc__law_moment.nd (pi_range1 (by rfl) B.range (pa_cons (pe_call T.G hr (by rfl) T.m T.k T.b .nil pass0 (pa_cons (pv 0) (pa_cons (pe_op op_add (pv 3) pe_int) pa_nil))) pa_nil)) (blkOk_by (own := [("k", 4)]) (N := n__law_moment) (sc := defScope s__law_moment) (by decide +kernel)) (fun _ _ _ _ _ => pg_name (i := 4) sc__law_moment.nd rfl (Or.inl rfl)) (fun _ _ _ _ _ => pts_nil)
      (fun _ _ _ _ _ => (pe_tup (pa_cons (pe_call T.G hr (by rfl) T.m T.k T.b .nil pass0 (pa_cons (pv 0) (pa_cons (pe_op (op_add : OpR _ _ (rI0 fun i j => .int (i + j))) (pv 2) pe_int) pa_nil))) (pa_cons (pe_call T.G hr (by rfl) T.m T.k T.b .nil pass0 (pa_cons (pv 0) (pa_cons (pe_ix (ix_tup : IxR _ (rIxT K)) (pv 1) pe_int (fun _ _ => rfl)) pa_nil))) (pa_cons (pe_call T.G hr (by rfl) T.m T.k T.b .nil pass0 (pa_cons (pv 0) (pa_cons pe_int pa_nil))) pa_nil)))))) pa_nil)))), ?_⟩
    refine ⟨.ref r, rfl, iV most, rfl, _, _, rfl, rfl, taken_of (m := most + 1) W (by omega) (by omega) (by omega) fun x0 H0 l0 k0 W0 => ⟨(x0 : Int), rfl, by omega, by omega, fun D nD => ?_⟩⟩
    have d4 := hh.d4; have p6 := hh.p6
    refine lc_range (lo := 0) (n := x0) (fun i G => ∃ (m : MomT) (ws : List V), m.length = i ∧ (∀ x ∈ m, OkDeed u p x) ∧ G D = some (.lst ws) ∧ TvAll G ws (m.map deedP) ∧ Kq r H0 G ∧ Rw K r a ns G) ⟨[], [], rfl, (fun x hx => by cases hx), upd_same, .nil, Kq.ex (Ex.new nD), W0.ex (Ex.new nD)⟩ (fun i G hi w => ?_) (fun G w => ?_)
    · obtain ⟨m, ws, ml, mo, gD, tv, kG, WG⟩ := w
      refine ⟨rfl, yes_go ?_⟩
      refine ⟨.ref r, rfl, iV u, rfl, _, _, rfl, rfl, taken_of (m := u + 1) WG (by omega) (by omega) (by omega) fun x1 G1 l1 k1 W1 => ?_⟩
      have hh1 := hh.kq W ((k0.trans kG).trans k1)
      refine ⟨.ref r, rfl, .ref hs, rfl, hs, _, _, .int p, rfl, rfl, SqT.of hh1.at_, atI_nat (j := 3) rfl, taken_of (m := p) W1 rfl hh.p1 (by omega) fun x2 G2 l2 k2 W2 => ?_⟩
      refine ⟨.ref r, rfl, taken_of (m := 10) W2 rfl (by decide) (by decide) fun x3 G3 l3 k3 W3 => ?_⟩
      refine ⟨by show 3 ≤ sizeLine; decide, fun t nt => ?_⟩
      have et := Ex.new (o := HO.tup [iV x1, iV x2, iV x3]) nt
      have k13 := (k1.trans (k2.trans k3)).trans (Kq.ex (r := r) et)
      have W4 := W3.ex et
      have nDr := W0.ne nD
      have gD4 := k13 _ _ nDr gD
      refine ⟨ws, gD4, ?_, m ++ [(x1, x2, x3)], ws ++ [.ref t], by rw [List.length_append, ml] <;> rfl, fun x hx => ?_, upd_same, ?_, ?_, W4.put W0 nD gD4⟩
      · rw [tv.len, List.length_map, ml]
        exact Nat.lt_of_lt_of_le hi (Nat.le_trans (show x0 ≤ 2 by omega) (by decide))
      · rcases List.mem_append.mp hx with z | z
        · exact mo x z
        · rw [List.mem_singleton.mp z]
          exact ⟨by show x1 ≤ u; omega, l2, l3⟩
      · rw [List.map_append]
        refine TvAll.mv (TvAll.app (tv.mv (k13.kt WG)) ?_) (Kt.put gD4)
        exact .cons (.tup upd_same (.cons (.int _) (.cons (.int _) (.cons (.int _) .nil)))) .nil
      · exact (kG.trans k13).put nD
    · obtain ⟨m, ws, ml, mo, gD, tv, kG, WG⟩ := w
      refine ⟨D, ws, rfl, .inl ⟨SqL.of gD, fun t nt => ?_⟩⟩
      have et := Ex.new (o := HO.tup ws) nt
      exact q t m _ (.tup upd_same (tv.mv (Kt.ex et))) ⟨by omega, mo⟩ ((k0.trans kG).trans (Kq.ex et)) (WG.ex et)
/-! #### coins -/
structure CoinsP (K : PySem.W.Frag) (vs : List V) (H : Hp) (Q : VK) : Prop where
  go : ∃ (r a hs : Addr) (ns : List Int) (n k d p c many : Nat), vs = [.ref r, .ref hs, iV many] ∧ Rw K r a ns H ∧ HouseAt H hs n k d p c ∧ many ≤ 1000 ∧ ∀ (t : Addr) (cs : List Nat) (H' : Hp), H' t = some (.tup (cs.map iV)) → cs.length = many → (∀ x ∈ cs, x < nck n k) → Kq r H H' → Rw K r a ns H' → Q (.ref t) H'
def spCoinsL (K : PySem.W.Frag) : Sp := fun vs H Q _ => CoinsP K vs H Q
theorem ok_coins {f fT fC : Addr} {fd fdT fdC : FuncData} (F : FnP K "_law_coins" s__law_coins f fd) (B : Blt mg) (T : TakenF P w K mg base fT fdT) (TC : Fn P w K mg base CX0 1 "_law_choices" ["many", "some"] spChoices fC fdC) : FnOk P w K mg base CX 2 f fd ["row", "house", "many"] (spCoinsL K) := by
  refine F.ok (CX := CX) sc__law_coins (fun vs H Q E h => ?_) (fun cdv A outer s H vs Q E hr h => ?_)
  · obtain ⟨r, a, hs, ns, n, k, d, p, c, many, rfl, _⟩ := h
    rfl
  · obtain ⟨r, a, hs, ns, n, k, d, p, c, many, rfl, W, hh, hm, q⟩ := h
    refine ⟨_, (pss_one (ps_ret (pe_callTy call_tuple_of (by rfl) B.tuple (by decide +kernel) (pa_cons (pe_lc (own := [("k", 3)]) (g := gName 3) (by rfl) sc__law_coins.nd (pi_range1 (by rfl) B.range (pa_cons (pv 2) pa_nil)) (blkOk_by (own := [("k", 3)]) (N := n__law_coins) (sc := defScope s__law_coins) (by decide +kernel)) (fun _ _ _ _ _ => pg_name (i := 3) sc__law_coins.nd rfl (Or.inl rfl)) (fun _ _ _ _ _ => pts_nil)
      (fun _ _ _ _ _ => (pe_call T.G hr (by rfl) T.m T.k T.b .nil pass0 (pa_cons (pv 0) (pa_cons (pe_call TC.G hr (by rfl) TC.m TC.k TC.b .nil pass0 (pa_cons (pe_ix (ix_tup : IxR _ (rIxT K)) (pv 1) pe_int (fun _ _ => rfl)) (pa_cons (pe_ix (ix_tup : IxR _ (rIxT K)) (pv 1) pe_int (fun _ _ => rfl)) pa_nil))) pa_nil))))) pa_nil)))), ?_⟩
    have n12 := hh.n12; have kn := hh.kn
    have b1 := nck_pos kn
    have b2 := nck_le n12 (show k ≤ 12 by omega)
    refine ⟨iV many, rfl, many, rfl, by omega, by omega, fun D nD => ?_⟩
    refine lc_range (lo := 0) (n := many) (fun i G => ∃ cs : List Nat, cs.length = i ∧ (∀ x ∈ cs, x < nck n k) ∧ G D = some (.lst (cs.map iV)) ∧ Kq r H G ∧ Rw K r a ns G) ⟨[], rfl, (fun x hx => by cases hx), upd_same, Kq.ex (Ex.new nD), W.ex (Ex.new nD)⟩ (fun i G hi w => ?_) (fun G w => ?_)
    · obtain ⟨cs, cl, co, gD, kG, WG⟩ := w
      have hhG := hh.kq W kG
      refine ⟨rfl, yes_go ?_⟩
      refine ⟨.ref r, rfl, .ref hs, rfl, hs, _, _, .int n, rfl, rfl, SqT.of hhG.at_, atI_nat (j := 0) rfl, .ref hs, rfl, hs, _, _, .int k, rfl, rfl, SqT.of hhG.at_, atI_nat (j := 1) rfl, n, k, rfl, n12, kn, ?_⟩
      refine taken_of (m := nck n k) WG rfl (by omega) (by omega) fun x1 G1 l1 k1 W1 => ?_
      have nDr := W.ne nD
      have gD1 := k1 _ _ nDr gD
      refine ⟨_, gD1, ?_, cs ++ [x1], by rw [List.length_append, cl] <;> rfl, fun x hx => ?_, by rw [upd_same, List.map_append] <;> rfl, (kG.trans k1).put nD, W1.put W nD gD1⟩
      · rw [List.length_map, cl]
        exact Nat.lt_of_lt_of_le hi (Nat.le_trans hm (by decide))
      · rcases List.mem_append.mp hx with z | z
        · exact co x z
        · rw [List.mem_singleton.mp z]
          exact l1
    · obtain ⟨cs, cl, co, gD, kG, WG⟩ := w
      refine ⟨D, _, rfl, .inl ⟨SqL.of gD, fun t nt => ?_⟩⟩
      have et := Ex.new (o := HO.tup (cs.map iV)) nt
      exact q t cs _ upd_same cl co (kG.trans (Kq.ex et)) (WG.ex et)
end
end K01

set_option maxHeartbeats 4000000
namespace K01
open PySem PySem.Spec PyProof.Rows L2 Hd Evl
section
variable {CX : CXT} {P : Program} {w : World} {K : PySem.W.Frag} {mg : Str → Option Value} {base : Heap}
/-! #### a life -/
structure LifeP (K : PySem.W.Frag) (vs : List V) (H : Hp) (Q : VK) : Prop where
  go : ∃ (r a hs : Addr) (ns : List Int) (n k d p c most : Nat), vs = [.ref r, .ref hs, iV most] ∧ Rw K r a ns H ∧ HouseAt H hs n k d p c ∧ most ≤ 1000 ∧ ∀ (t : Addr) (L : LifeT) (H' : Hp), Tv H' (.ref t) (lifeP L) → OkLife d p most L → Kq r H H' → Rw K r a ns H' → Q (.ref t) H'
def spLifeL (K : PySem.W.Frag) : Sp := fun vs H Q _ => LifeP K vs H Q
theorem lenT_app (L : LifeT) (s : Nat × StoryT) : lenT (L ++ [s]) = lenT L + s.2.length := by simp [lenT]
theorem ok_lifeL {f fT fM : Addr} {fd fdT fdM : FuncData} (F : FnP K "_law_life" s__law_life f fd) (B : Blt mg) (T : TakenF P w K mg base fT fdT) (TM : Fn P w K mg base CX0 2 "_law_moment" ["row", "house", "deepest", "most"] (spMom K) fM fdM) : FnOk P w K mg base CX 3 f fd ["row", "house", "moments"] (spLifeL K) := by
  refine F.ok (CX := CX) sc__law_life (fun vs H Q E h => ?_) (fun cdv A outer s H vs Q E hr h => ?_)
  · obtain ⟨r, a, hs, ns, n, k, d, p, c, most, rfl, _⟩ := h
    rfl
  · obtain ⟨r, a, hs, ns, n, k, d, p, c, most, rfl, W, hh, hm, q⟩ := h
    have h1 := hr.mono (show 1 ≤ 2 by decide)
    refine ⟨_, (pss_cons (ps_par (i := 3) (j := 4) (by rfl) sc__law_life.nd rfl rfl (by decide) rfl rfl (pa_cons (pe_lst pa_nil) (pa_cons (pv 2) pa_nil)) (by rfl))
    (pss_cons (ps_for (passes_of rfl) rfl (pi_range1 (by rfl) B.range (pa_cons (pe_op op_add pe_int (pe_call T.G h1 (by rfl) T.m T.k T.b .nil pass0 (pa_cons (pv 0) (pa_cons pe_int pa_nil)))) pa_nil)) (pg_name (i := 5) sc__law_life.nd rfl (Or.inl rfl)) (pss_cons (ps_asg (pe_tup (pa_cons (pe_call T.G h1 (by rfl) T.m T.k T.b .nil pass0 (pa_cons (pv 0) (pa_cons (pe_ix ix_tup (pv 1) pe_int (fun _ _ => rfl)) pa_nil))) (pa_cons (pe_call T.G h1 (by rfl) T.m T.k T.b .nil pass0 (pa_cons (pv 0) (pa_cons (pe_op op_add (pv 4) pe_int) pa_nil))) pa_nil))) (pg_tup rfl (pgs_cons (pg_name (i := 6) sc__law_life.nd rfl (Or.inr rfl)) (pgs_cons (pg_name (i := 7) sc__law_life.nd rfl (Or.inl rfl)) pgs_nil))))
    (pss_cons (ps_expr (pe_bm PySem.F.plainAttrs_list PySem.F.slot_list_append PySem.F.type_list_append mt_append (pv 3) (pa_cons (pe_tup (pa_cons (pv 6) (pa_cons (pe_callTy call_tuple_of (by rfl) B.tuple (by decide +kernel) (pa_cons (pe_lc (own := [("j", 8)]) (g := gName 8) (by rfl) sc__law_life.nd (pi_range1 (by rfl) B.range (pa_cons (pv 7) pa_nil)) (blkOk_by (own := [("j", 8)]) (N := n__law_life) (sc := defScope s__law_life) (by decide +kernel)) (fun _ _ _ _ _ => pg_name (i := 8) sc__law_life.nd rfl (Or.inl rfl)) (fun _ _ _ _ _ => pts_nil) (fun _ _ _ _ _ => (pe_call TM.G hr (by rfl) TM.m TM.k TM.b .nil pass0 (pa_cons (pv 0) (pa_cons (pv 1) (pa_cons (pv 6) (pa_cons pe_int pa_nil))))))) pa_nil)) pa_nil))) pa_nil)))
    (pss_one (ps_set (i := 4) sc__law_life.nd rfl (Or.inl rfl) (pe_op op_sub (pv 4) (pv 7)))))))
    (pss_one (ps_ret (pe_callTy call_tuple_of (by rfl) B.tuple (by decide +kernel) (pa_cons (pv 3) pa_nil)))))), ?_⟩
    have d4 := hh.d4
    refine ⟨Nat.zero_le _, fun F nF => ⟨iV most, rfl, _, _, rfl, ?_⟩⟩
    have eF := Ex.new (o := HO.lst []) nF
    have nFr := W.ne nF
    have W1 := W.ex eF
    refine ⟨.ref r, rfl, taken_of (m := 3) W1 rfl (by decide) (by decide) fun x0 H2 l0 k0 W2 => ⟨_, _, rfl, rfl, 1 + (x0 : Int), rfl, by omega, by omega, ?_⟩⟩
    rw [show (1 + (x0 : Int)).toNat = 1 + x0 by omega]
    refine for_range (lo := 0) (n := 1 + x0) (fun i σ G => ∃ (L : LifeT) (left : Nat) (ws : List V) (y5 y6 y7 : Option V), L.length = i ∧ (∀ s ∈ L, OkSess d p s) ∧ left + lenT L = most ∧ σ = [some (.ref r), some (.ref hs), some (iV most), some (.ref F), some (iV left), y5, y6, y7, none] ∧ G F = some (.lst ws) ∧ TvAll G ws (L.map sessP) ∧ Kq r H G ∧ Rw K r a ns G)
      ⟨[], most, [], none, none, none, rfl, (fun s hs => by cases hs), rfl, rfl, k0 _ _ nFr upd_same, .nil, (Kq.ex eF).trans k0, W2⟩ (fun i σ G hi w => ?_) (fun σ G w => ?_)
    · obtain ⟨L, left, ws, y5, y6, y7, Ll, Lo, Le, rfl, gF, tv, kG, WG⟩ := w
      have hhG := hh.kq W kG
      refine ⟨.ref r, rfl, .ref hs, rfl, hs, _, _, .int d, rfl, rfl, SqT.of hhG.at_, atI_nat (j := 2) rfl, taken_of (m := d) WG rfl hhG.d1 (by omega) fun u G1 lu k1 W3 => ?_⟩
      refine ⟨.ref r, rfl, iV left, rfl, _, _, rfl, rfl, taken_of (m := left + 1) W3 (by omega) (by omega) (by omega) fun mm G2 lm k2 W4 => ?_⟩
      refine ⟨by show 2 ≤ sizeLine; decide, fun t2 n2 => ?_⟩
      have e2 := Ex.new (o := HO.tup [iV u, iV mm]) n2
      have W5 := W4.ex e2
      refine ⟨t2, _, rfl, SqT.of upd_same, rfl, _, _, rfl, _, _, rfl, rfl, ?_⟩
      have k12 := (k1.trans k2).trans (Kq.ex (r := r) e2)
      have kA := kG.trans k12
      have hh5 := hh.kq W kA
      have gF5 := k12 _ _ nFr gF
      refine ⟨.ref F, rfl, .inl ⟨rfl, _, SqL.of gF5⟩, iV u, rfl, iV mm, rfl, mm, rfl, by omega, by omega, fun D nD => ?_⟩
      refine lc_range (lo := 0) (n := mm) (fun j G' => ∃ (st : StoryT) (vs : List V), st.length = j ∧ (∀ m ∈ st, OkMom u p m) ∧ G' D = some (.lst vs) ∧ TvAll G' vs (st.map momP) ∧ Kq r (upd G2 t2 (.tup [iV u, iV mm])) G' ∧ Rw K r a ns G') ⟨[], [], rfl, (fun m hm => by cases hm), upd_same, .nil, Kq.ex (Ex.new nD), W5.ex (Ex.new nD)⟩ (fun j G' hj w => ?_) (fun G' w => ?_)
      · obtain ⟨st, vs, sl, so, gD, tvs, kD, WD⟩ := w
        have hhD := hh5.kq W5 kD
        refine ⟨rfl, yes_go ?_⟩
        refine ⟨.ref r, rfl, .ref hs, rfl, iV u, rfl, r, a, hs, ns, n, k, d, p, c, u, 2, rfl, WD, hhD, lu, by decide, fun tm m G3 tvm om k3 W6 => ?_⟩
        have nDr := W5.ne nD
        have gD3 := k3 _ _ nDr gD
        refine ⟨vs, gD3, ?_, st ++ [m], vs ++ [.ref tm], by rw [List.length_append, sl] <;> rfl, fun x hx => ?_, upd_same, ?_, (kD.trans k3).put nD, W6.put W5 nD gD3⟩
        · rw [tvs.len, List.length_map, sl]
          exact Nat.lt_of_lt_of_le hj (Nat.le_trans (show mm ≤ 1000 by omega) (by decide))
        · rcases List.mem_append.mp hx with z | z
          · exact so x z
          · rw [List.mem_singleton.mp z]
            exact om
        · rw [List.map_append]
          exact ((tvs.mv (k3.kt WD)).app (.cons tvm .nil)).mv (Kt.put gD3)
      · obtain ⟨st, vs, sl, so, gD, tvs, kD, WD⟩ := w
        refine ⟨D, vs, rfl, .inl ⟨SqL.of gD, fun ts nts => ?_⟩⟩
        have es := Ex.new (o := HO.tup vs) nts
        refine ⟨by show 2 ≤ sizeLine; decide, fun tp ntp => ?_⟩
        have ep := Ex.new (o := HO.tup [iV u, .ref ts]) ntp
        have gFD : G' F = some (.lst ws) := kD _ _ nFr gF5
        have gFp := ep _ _ (es _ _ gFD)
        refine ⟨F, ws, _, rfl, rfl, gFp, ?_, ?_⟩
        · rw [tv.len, List.length_map, Ll]
          exact Nat.lt_of_lt_of_le hi (Nat.le_trans (show 1 + x0 ≤ 4 by omega) (by decide))
        refine ⟨iV left, rfl, iV mm, rfl, _, _, rfl, rfl, L ++ [(u, st)], left - mm, ws ++ [.ref tp], some (.int (0 + (i : Int))), some (iV u), some (iV mm), by rw [List.length_append, Ll] <;> rfl, fun s hs => ?_, ?_, ?_, upd_same, ?_, ?_, ?_⟩
        · rcases List.mem_append.mp hs with z | z
          · exact Lo s z
          · rw [List.mem_singleton.mp z]
            exact ⟨lu, so⟩
        · rw [lenT_app, sl]
          omega
        · show [some (V.ref r), some (.ref hs), some (iV most), some (.ref F), some (.int ((left : Int) - (mm : Int))), some (.int (0 + (i : Int))), some (iV u), some (iV mm), none] = _
          rw [show (left : Int) - (mm : Int) = ((left - mm : Nat) : Int) by omega]
        · rw [List.map_append]
          have m1 : Kt G _ := ((k12.kt WG).trans (kD.kt W5)).trans ((Kt.ex es).trans (Kt.ex ep))
          refine TvAll.mv (TvAll.app (tv.mv m1) ?_) (Kt.put gFp)
          exact .cons (.tup upd_same (.cons (.int _) (.cons (.tup (ep _ _ upd_same) ((tvs.mv (Kt.ex es)).mv (Kt.ex ep))) .nil))) .nil
        · exact ((kA.trans kD).trans ((Kq.ex es).trans (Kq.ex ep))).put nF
        · exact ((WD.ex es).ex ep).put W nF gFp
    · obtain ⟨L, left, ws, y5, y6, y7, Ll, Lo, Le, rfl, gF, tv, kG, WG⟩ := w
      refine ⟨.ref F, rfl, F, ws, rfl, .inl ⟨SqL.of gF, fun t nt => ?_⟩⟩
      have et := Ex.new (o := HO.tup ws) nt
      exact q t L _ (.tup upd_same (tv.mv (Kt.ex et))) ⟨by omega, by omega, Lo, by omega⟩ (kG.trans (Kq.ex et)) (WG.ex et)
end
end K01

set_option maxHeartbeats 4000000
namespace K01
open PySem PySem.Spec PyProof.Rows L2 Hd Evl
theorem Kq.ofNew {D : Addr} {H H1 : Hp} (k : Kq D H H1) (n : H D = none) : Ex H H1 := fun b o h => k b o (ne_of_none h n) h
theorem tv_tup {H : Hp} {v : V} {ds : List PyData} (h : Tv H v (.tuple ds)) : ∃ a xs, v = .ref a ∧ H a = some (.tup xs) ∧ TvAll H xs ds := by
  cases h with
  | tup ha all => exact ⟨_, _, rfl, ha, all⟩
theorem tv_ref {H : Hp} {a : Addr} {ds : List PyData} (h : Tv H (.ref a) (.tuple ds)) : ∃ xs, H a = some (.tup xs) ∧ TvAll H xs ds := by
  cases h with
  | tup ha all => exact ⟨_, ha, all⟩
theorem tv_int {H : Hp} {v : V} {n : Nat} (h : Tv H v (intP n)) : v = iV n := by
  have h' : Tv H v (.int (n : Int)) := h
  cases h'
  rfl
/-- the i-th of a mapped list -/
theorem tv_at {α : Type} {H : Hp} {xs : List V} {L : List α} {f : α → PyData} {i : Nat} {v : V} (h : TvAll H xs (L.map f)) (e : xs[i]? = some v) : ∃ x, L[i]? = some x ∧ Tv H v (f x) := by
  obtain ⟨d, a, b⟩ := h.at_ e
  rw [List.getElem?_map] at a
  obtain ⟨x, hx, rfl⟩ := Option.map_eq_some_iff.mp a
  exact ⟨x, hx, b⟩
theorem tv_sess {H : Hp} {v : V} {s : Nat × StoryT} (h : Tv H v (sessP s)) : ∃ t u us, v = .ref t ∧ H t = some (.tup [iV s.1, .ref u]) ∧ H u = some (.tup us) ∧ TvAll H us (s.2.map momP) := by
  obtain ⟨t, xs, rfl, ht, all⟩ := tv_tup h
  cases all with
  | cons h1 h2 =>
    cases h2 with
    | cons h3 h4 =>
      cases h4
      obtain rfl := tv_int h1
      obtain ⟨u, us, rfl, hu, a2⟩ := tv_tup h3
      exact ⟨t, u, us, rfl, ht, hu, a2⟩
theorem tv_deed {H : Hp} {v : V} {x : DeedT} (h : Tv H v (deedP x)) : ∃ t, v = .ref t ∧ H t = some (.tup [iV x.1, iV x.2.1, iV x.2.2]) := by
  obtain ⟨t, xs, rfl, ht, all⟩ := tv_tup h
  cases all with
  | cons h1 h2 =>
    cases h2 with
    | cons h3 h4 =>
      cases h4 with
      | cons h5 h6 =>
        cases h6
        obtain rfl := tv_int h1
        obtain rfl := tv_int h3
        obtain rfl := tv_int h5
        exact ⟨t, rfl, ht⟩
/-- a life as it is for the keys 0 to u -/
def upM (u : Nat) (m : MomT) : MomT := m.filter fun x => decide (x.1 ≤ u)
def upT (u : Nat) (L : LifeT) : LifeT := L.map fun s => (min s.1 u, s.2.map (upM u))
theorem take_snoc {α : Type} {L : List α} {i : Nat} {x : α} (h : L[i]? = some x) : L.take (i + 1) = L.take i ++ [x] := by rw [List.take_succ, h] <;> rfl
section
variable {CX : CXT} {P : Program} {w : World} {K : PySem.W.Frag} {mg : Str → Option Value} {base : Heap}
/-! #### how many moments -/
def spLength : Sp := fun vs H Q _ => ∃ (t : Addr) (L : LifeT), vs = [.ref t] ∧ Tv H (.ref t) (lifeP L) ∧ (∀ s ∈ L, s.2.length ≤ 1000) ∧ L.length ≤ 1000 ∧ ∀ H', Ex H H' → Q (iV (lenT L)) H'
theorem ok_length {f : Addr} {fd : FuncData} (F : FnP K "_law_length" s__law_length f fd) (B : Blt mg) : FnOk P w K mg base CX 1 f fd ["life"] spLength := by
  refine F.ok (CX := CX) sc__law_length (fun vs H Q E h => ?_) (fun cdv A outer s H vs Q E hr h => ?_)
  · obtain ⟨t, L, rfl, _⟩ := h
    rfl
  · obtain ⟨t, L, rfl, tv, b1, b2, q⟩ := h
    refine ⟨_, (pss_one (ps_ret (pe_callB (cr_sum rfl) (by rfl) B.sum (by decide +kernel) (pa_cons (pe_lc (own := [("one", 1)]) (g := gName 1) (by rfl) sc__law_length.nd (pi_tup (pv 0)) (blkOk_by (own := [("one", 1)]) (N := n__law_length) (sc := defScope s__law_length) (by decide +kernel)) (fun _ _ _ _ _ => pg_name (i := 1) sc__law_length.nd rfl (Or.inl rfl)) (fun _ _ _ _ _ => pts_nil)
      (fun _ _ _ _ _ => (pe_callB (call_len_seq : CallR _ _ (rLenK K)) (by rfl) B.len (by decide +kernel) (pa_cons (pe_ix (ix_tup : IxR _ (rIxT K)) (pv 1) pe_int (fun _ _ => rfl)) pa_nil)))) pa_nil)))), ?_⟩
    obtain ⟨ss, hs, all⟩ := tv_ref tv
    have hl : ss.length = L.length := by rw [all.len, List.length_map]
    refine ⟨.ref t, rfl, t, rfl, ⟨ss, SqT.of hs⟩, fun D nD => ?_⟩
    refine lc_tup (xs := ss) (fun i G => G D = some (.lst (((L.take i).map fun s => ((s.2.length : Nat) : Int)).map V.int)) ∧ Kq D H G) ⟨upd_same, Kq.row⟩ (fun i G _ w => SqT.of (w.2.ofNew nD _ _ hs)) (fun i x G hx w => ?_) (fun G w => ?_)
    · obtain ⟨gD, kG⟩ := w
      obtain ⟨sx, hsx, tvx⟩ := tv_at all hx
      obtain ⟨tt, u, us, rfl, h1, h2, h3⟩ := tv_sess tvx
      have e := kG.ofNew nD
      have il : i < L.length := (List.getElem?_eq_some_iff.mp hsx).1
      refine ⟨rfl, yes_go ⟨.ref tt, rfl, tt, _, _, .ref u, rfl, rfl, SqT.of (e _ _ h1), atI_nat (j := 1) rfl, u, us, rfl, .inr (SqT.of (e _ _ h2)), _, gD, ?_, ?_, kG.trans Kq.row⟩⟩
      · rw [List.length_map, List.length_map, List.length_take]
        exact Nat.lt_of_le_of_lt (Nat.min_le_left _ _) (Nat.lt_of_lt_of_le il (Nat.le_trans b2 (by decide)))
      · rw [upd_same, take_snoc hsx, List.map_append, List.map_append, h3.len, List.length_map] <;> rfl
    · obtain ⟨gD, kG⟩ := w
      rw [hl, List.take_length] at gD
      refine ⟨D, _, rfl, SqL.of gD, ?_⟩
      have es : ((L.map fun s => ((s.2.length : Nat) : Int))).sum = ((lenT L : Nat) : Int) := by
        unfold lenT
        induction L with
        | nil => rfl
        | cons x r ih =>
          simp only [List.map_cons, List.sum_cons]
          have e1 : ∀ M : LifeT, (M.map fun s => ((s.2.length : Nat) : Int)).sum = (((M.map fun s => s.2.length).sum : Nat) : Int) := fun M => by
            induction M with
            | nil => rfl
            | cons y z ih2 => simp only [List.map_cons, List.sum_cons, ih2]; push_cast; rfl
          rw [e1 r]
          push_cast
          rfl
      rw [es]
      exact q G (kG.ofNew nD)
/-! #### the law's upper -/
def spUpL : Sp := fun vs H Q _ => ∃ (t : Addr) (L : LifeT) (u : Nat), vs = [.ref t, iV u] ∧ Tv H (.ref t) (lifeP L) ∧ (∀ s ∈ L, s.2.length ≤ 1000 ∧ ∀ m ∈ s.2, m.length ≤ 1000) ∧ L.length ≤ 1000 ∧ ∀ (t' : Addr) H', Tv H' (.ref t') (lifeP (upT u L)) → Ex H H' → Q (.ref t') H'
theorem filter_snoc {m : MomT} {i : Nat} {x : DeedT} (u : Nat) (h : m[i]? = some x) : upM u (m.take (i + 1)) = upM u (m.take i) ++ (if x.1 ≤ u then [x] else []) := by
  unfold upM
  rw [take_snoc h, List.filter_append]
  by_cases c : x.1 ≤ u
  · rw [if_pos c]
    simp [c]
  · rw [if_neg c]
    simp [c]
theorem ok_upL {f : Addr} {fd : FuncData} (F : FnP K "_law_upper" s__law_upper f fd) (B : Blt mg) : FnOk P w K mg base CX 1 f fd ["life", "drawer"] spUpL := by
  refine F.ok (CX := CX) sc__law_upper (fun vs H Q E h => ?_) (fun cdv A outer s H vs Q E hr h => ?_)
  · obtain ⟨t, L, u, rfl, _⟩ := h
    rfl
  · obtain ⟨t, L, u, rfl, tv, b1, b2, q⟩ := h
    refine ⟨_, (pss_cons (ps_set (i := 2) sc__law_upper.nd rfl (Or.inl rfl) (pe_lst pa_nil))
    (pss_cons (ps_for (passes_of rfl) rfl (pi_tup (pv 0)) (pg_tup rfl (pgs_cons (pg_name (i := 3) sc__law_upper.nd rfl (Or.inl rfl)) (pgs_cons (pg_name (i := 4) sc__law_upper.nd rfl (Or.inl rfl)) pgs_nil))) (pss_one (ps_expr (pe_bm PySem.F.plainAttrs_list PySem.F.slot_list_append PySem.F.type_list_append mt_append (pv 2) (pa_cons (pe_tup (pa_cons (pe_callB (call_min2 rfl) (by rfl) B.min (by decide +kernel) (pa_cons (pv 3) (pa_cons (pv 1) pa_nil))) (pa_cons (pe_callTy call_tuple_of (by rfl) B.tuple (by decide +kernel) (pa_cons (pe_lc (own := [("moment", 5)]) (g := gName 5) (by rfl) sc__law_upper.nd (pi_tup (pv 4)) (blkOk_by (own := [("moment", 5)]) (N := n__law_upper) (sc := defScope s__law_upper) (by decide +kernel)) (fun _ _ _ _ _ => pg_name (i := 5) sc__law_upper.nd rfl (Or.inl rfl)) (fun _ _ _ _ _ => pts_nil)
      (fun _ _ _ _ _ => (pe_callTy (call_tuple_of : CallR _ _ (fun xs H Q => ∃ p ys, xs = [.ref p] ∧ ((SqL K H p ys ∧ ∀ l, H l = none → Q (.ref l) (upd H l (.tup ys))) ∨ (SqT K H p ys ∧ Q (.ref p) H)))) (by rfl) B.tuple (by decide +kernel) (pa_cons (pe_lc (own := [("one", 6)]) (g := gName 6) (by rfl) sc__law_upper.nd (pi_tup (pv 5) : PI _ _ _ (iTup K (tVar 5))) (blkOk_by (own := [("one", 6)]) (by kernel_rfl)) (fun _ _ _ _ _ => pg_name (i := 6) sc__law_upper.nd rfl (Or.inl rfl)) (fun _ _ _ _ _ => pts_one (pt_cmpR op_le (pe_ix (ix_tup : IxR _ (rIxT K)) (pv 6) pe_int (fun _ _ => rfl)) (pv 1) (nomark _))) (fun _ _ _ _ _ => (pv 6))) pa_nil)))) pa_nil)) pa_nil))) pa_nil)))))
    (pss_one (ps_ret (pe_callTy call_tuple_of (by rfl) B.tuple (by decide +kernel) (pa_cons (pv 2) pa_nil)))))), ?_⟩
    obtain ⟨ss, hs, all⟩ := tv_ref tv
    have hl : ss.length = L.length := by rw [all.len, List.length_map]
    refine ⟨Nat.zero_le _, fun F nF => ⟨.ref t, rfl, t, rfl, ⟨ss, SqT.of ((Ex.new (o := HO.lst []) nF) _ _ hs)⟩, ?_⟩⟩
    refine for_tup (xs := ss) (fun i σ G => ∃ (ws : List V) (y3 y4 : Option V), σ = [some (.ref t), some (iV u), some (.ref F), y3, y4, none, none] ∧ G F = some (.lst ws) ∧ TvAll G ws ((upT u (L.take i)).map sessP) ∧ Kq F H G) ⟨[], none, none, rfl, upd_same, .nil, Kq.row⟩ (fun i σ G _ w => by obtain ⟨_, _, _, _, _, _, k⟩ := w; exact SqT.of (k.ofNew nF _ _ hs)) (fun i x σ G hx w => ?_) (fun σ G w => ?_)
    · obtain ⟨ws, y3, y4, rfl, gF, tvw, kG⟩ := w
      obtain ⟨sx, hsx, tvx⟩ := tv_at all hx
      have il : i < L.length := (List.getElem?_eq_some_iff.mp hsx).1
      obtain ⟨bs, bm⟩ := b1 sx (List.mem_of_getElem? hsx)
      have eG := kG.ofNew nF
      obtain ⟨tt, su, us, rfl, h1, h2, h3⟩ := tv_sess (tvx.mv (Kt.ex eG))
      have hul : us.length = sx.2.length := by rw [h3.len, List.length_map]
      refine ⟨tt, _, rfl, SqT.of h1, rfl, _, _, rfl, _, _, rfl, rfl, .ref F, rfl, .inl ⟨rfl, _, SqL.of gF⟩, iV sx.1, rfl, iV u, rfl, _, _, rfl, .ref su, rfl, su, rfl, ⟨us, SqT.of h2⟩, fun D nD => ?_⟩
      have nFD : F ≠ D := ne_of_none gF nD
      refine lc_tup (xs := us) (fun j G' => ∃ vs, G' D = some (.lst vs) ∧ TvAll G' vs (((sx.2.take j).map (upM u)).map momP) ∧ Kq D G G') ⟨[], upd_same, .nil, Kq.row⟩ (fun j G' _ w => by obtain ⟨_, _, _, k⟩ := w; exact SqT.of (k.ofNew nD _ _ h2)) (fun j y G' hy w => ?_) (fun G' w => ?_)
      · obtain ⟨vs, gD, tvs, kD⟩ := w
        obtain ⟨m, hm, tvm⟩ := tv_at h3 hy
        have jl : j < sx.2.length := (List.getElem?_eq_some_iff.mp hm).1
        have bmm := bm m (List.mem_of_getElem? hm)
        have eD := kD.ofNew nD
        obtain ⟨mt, ds, rfl, hmt, a3⟩ := tv_tup (tvm.mv (Kt.ex eD))
        refine ⟨rfl, yes_go ⟨.ref mt, rfl, mt, rfl, ⟨ds, SqT.of hmt⟩, fun D3 n3 => ?_⟩⟩
        refine lc_tup (xs := ds) (fun l G3 => ∃ zs, G3 D3 = some (.lst zs) ∧ TvAll G3 zs ((upM u (m.take l)).map deedP) ∧ Kq D3 G' G3) ⟨[], upd_same, .nil, Kq.row⟩ (fun l G3 _ w => by obtain ⟨_, _, _, k⟩ := w; exact SqT.of (k.ofNew n3 _ _ hmt)) (fun l z G3 hz w => ?_) (fun G3 w => ?_)
        · obtain ⟨zs, g3, tvz, k3⟩ := w
          obtain ⟨x, hx3, tvx3⟩ := tv_at a3 hz
          have ll : l < m.length := (List.getElem?_eq_some_iff.mp hx3).1
          have e3 := k3.ofNew n3
          have tvx4 := tvx3.mv (Kt.ex e3)
          obtain ⟨dt, rfl, hdt⟩ := tv_deed tvx4
          refine ⟨rfl, .ref dt, rfl, dt, _, _, iV x.1, rfl, rfl, SqT.of hdt, atI_nat (j := 0) rfl, iV u, rfl, _, _, rfl, rfl, _, rfl, ite2 (fun c => ?_) (fun c => ?_)⟩
          · have c' : x.1 ≤ u := by have := of_decide_eq_true c; omega
            refine ⟨.ref dt, rfl, zs, g3, ?_, zs ++ [.ref dt], upd_same, ?_, k3.trans Kq.row⟩
            · rw [tvz.len, List.length_map]
              refine Nat.lt_of_le_of_lt (List.length_filter_le _ _) ?_
              rw [List.length_take]
              exact Nat.lt_of_le_of_lt (Nat.min_le_left _ _) (Nat.lt_of_lt_of_le ll (Nat.le_trans bmm (by decide)))
            · rw [filter_snoc u hx3, if_pos c', List.map_append]
              exact (tvz.app (.cons tvx4 .nil)).mv (Kt.put g3)
          · have c' : ¬ x.1 ≤ u := fun z => c (decide_eq_true (by omega))
            refine ⟨zs, g3, ?_, k3⟩
            rw [filter_snoc u hx3, if_neg c', List.append_nil]
            exact tvz
        · obtain ⟨zs, g3, tvz, k3⟩ := w
          have dl : ds.length = m.length := by rw [a3.len, List.length_map]
          rw [dl, List.take_length] at tvz
          have e3 := k3.ofNew n3
          refine ⟨D3, zs, rfl, .inl ⟨SqL.of g3, fun tm ntm => ?_⟩⟩
          have em := Ex.new (o := HO.tup zs) ntm
          have gD4 := em _ _ (e3 _ _ gD)
          refine ⟨vs, gD4, ?_, vs ++ [.ref tm], upd_same, ?_, ((kD.trans (Kq.ex e3)).trans (Kq.ex em)).trans Kq.row⟩
          · rw [tvs.len, List.length_map, List.length_map, List.length_take]
            exact Nat.lt_of_le_of_lt (Nat.min_le_left _ _) (Nat.lt_of_lt_of_le jl (Nat.le_trans bs (by decide)))
          · rw [take_snoc hm, List.map_append, List.map_append]
            refine TvAll.mv (TvAll.app ((tvs.mv (Kt.ex e3)).mv (Kt.ex em)) ?_) (Kt.put gD4)
            exact .cons (.tup upd_same (tvz.mv (Kt.ex em))) .nil
      · obtain ⟨vs, gD, tvs, kD⟩ := w
        rw [hul, List.take_length] at tvs
        have eD := kD.ofNew nD
        refine ⟨D, vs, rfl, .inl ⟨SqL.of gD, fun ts nts => ?_⟩⟩
        have es := Ex.new (o := HO.tup vs) nts
        refine ⟨by show 2 ≤ sizeLine; decide, fun tp ntp => ?_⟩
        obtain ⟨mn, hmn⟩ : ∃ mn : Nat, (if ((u : Nat) : Int) < ((sx.1 : Nat) : Int) then ((u : Nat) : Int) else ((sx.1 : Nat) : Int)) = (mn : Int) ∧ mn = min sx.1 u := by
          by_cases z : ((u : Nat) : Int) < ((sx.1 : Nat) : Int)
          · exact ⟨u, by rw [if_pos z], by omega⟩
          · exact ⟨sx.1, by rw [if_neg z], by omega⟩
        rw [hmn.1]
        have ep := Ex.new (o := HO.tup [iV mn, .ref ts]) ntp
        have gFp := ep _ _ (es _ _ (eD _ _ gF))
        refine ⟨F, ws, _, rfl, rfl, gFp, ?_, ws ++ [.ref tp], some (iV sx.1), some (.ref su), rfl, upd_same, ?_, ?_⟩
        · rw [tvw.len, List.length_map, upT, List.length_map, List.length_take]
          exact Nat.lt_of_le_of_lt (Nat.min_le_left _ _) (Nat.lt_of_lt_of_le il (Nat.le_trans b2 (by decide)))
        · unfold upT
          rw [take_snoc hsx, List.map_append, List.map_append]
          have m1 : Kt G _ := (Kt.ex eD).trans ((Kt.ex es).trans (Kt.ex ep))
          refine TvAll.mv (TvAll.app (tvw.mv m1) ?_) (Kt.put gFp)
          refine .cons ?_ .nil
          show Tv _ _ (sessP (min sx.1 u, sx.2.map (upM u)))
          rw [← hmn.2]
          exact .tup upd_same (.cons (.int _) (.cons (.tup (ep _ _ upd_same) ((tvs.mv (Kt.ex es)).mv (Kt.ex ep))) .nil))
        · exact (((kG.trans (Kq.ex eD)).trans (Kq.ex es)).trans (Kq.ex ep)).trans Kq.row
    · obtain ⟨ws, y3, y4, rfl, gF, tvw, kG⟩ := w
      rw [hl, List.take_length] at tvw
      refine ⟨.ref F, rfl, F, ws, rfl, .inl ⟨SqL.of gF, fun t' nt => ?_⟩⟩
      have et := Ex.new (o := HO.tup ws) nt
      exact q t' _ (.tup upd_same (tvw.mv (Kt.ex et))) ((kG.ofNew nF).trans et)
end
end K01

set_option maxHeartbeats 4000000
namespace K01
open PySem PySem.Spec PyProof.Rows L2 Hd Evl
/-- as Ks, but a fresh list D grows -/
structure Kd (K : PySem.W.Frag) (D : Addr) (H H' : Hp) : Prop where
  e : ∀ b o, b ≠ D → H b = some o → (∀ ps, o ≠ .tbl ps) → H' b = some o
  s : ∀ b o, b ≠ D → ¬ Sk K b → H b = some o → H' b = some o
  g : ∀ P, P ≠ D → GxR.TabG H P → GxR.TabG H' P
section
variable {K : PySem.W.Frag} {D : Addr} {H H1 H2 : Hp} {o : HO}
theorem Kd.ks (k : Kd K D H H1) (n : H D = none) : Ks K H H1 := ⟨fun b o h t => k.e b o (ne_of_none h n) h t, fun b o t h => k.s b o (ne_of_none h n) t h, fun P h => k.g P (fun e => by obtain ⟨ps, h1, _⟩ := h; rw [e, n] at h1; cases h1) h⟩
theorem Kd.of (k : Ks K H H1) : Kd K D H H1 := ⟨fun b o _ h t => k.e b o h t, fun b o _ t h => k.s b o t h, fun P _ h => k.g P h⟩
theorem Kd.trans (a : Kd K D H H1) (b : Kd K D H1 H2) : Kd K D H H2 := ⟨fun c u n h t => b.e c u n (a.e c u n h t) t, fun c u n t h => b.s c u n t (a.s c u n t h), fun P n h => b.g P n (a.g P n h)⟩
theorem Kd.upd : Kd K D H (upd H D o) := ⟨fun b u n h _ => by rw [upd_ne n]; exact h, fun b u n _ h => by rw [upd_ne n]; exact h, fun P n ⟨ps, h1, h2⟩ => ⟨ps, by rw [upd_ne n]; exact h1, h2⟩⟩
theorem ks_kt (k : Ks K H H1) : Kt H H1 := fun b xs h => k.t _ _ h
end
section
variable {CX : CXT} {P : Program} {w : World} {K : PySem.W.Frag} {mg : Str → Option Value} {base : Heap}
/-! ### the program's upper -/
def spUpM (K : PySem.W.Frag) (Pt : Addr) : Sp := fun vs H Q _ => ∃ (t : Addr) (m : MomT) (u : Nat), vs = [.ref t, iV u] ∧ Tv H (.ref t) (momP m) ∧ m.length ≤ 1000 ∧ GxR.TabG H Pt ∧ ∀ (t' : Addr) H', Tv H' (.ref t') (momP (upM u m)) → Ks K H H' → Q (.ref t') H'
theorem ok_upM {f c Pt : Addr} {fd : FuncData} (F : FnP K "upper_moment" s_upper_moment f fd) (B : Blt mg) (CA : CodeAt K mg base fd c Pt) : FnOk P w K mg base CX 2 f fd ["moment", "drawer"] (spUpM K Pt) := by
  obtain ⟨oc, od, dV, kV, doc, pm, an, cdv, ct, osl, rfl, lk, hcd, _, _⟩ := F.ex
  obtain rfl : cdv = .ref c := CA.e
  refine fn_of (k := 1) lk hcd sc_upper_moment (fun vs H Q E h => ?_) (fun A outer s H vs Q E hr h => ?_)
  · obtain ⟨t, m, u, rfl, _⟩ := h
    rfl
  · obtain ⟨t, m, u, rfl, tv, bm, hT, q⟩ := h
    refine ⟨_, pss_one (ps_ret (pe_tupG (own := [("deed", 2)]) (g := gName 2) (k := 0) hr (by rfl) B.tuple CA.tb rfl (genOk_by (by rfl)) sc_upper_moment.nd (pi_tup (pv 0)) (fun A s H code fp pn r => pg_name (i := 2) sc_upper_moment.nd rfl (Or.inl rfl))
      (fun A s H code fp pn r => pts_one (pt_cmpR op_le (pe_ix (ix_tup : IxR _ (rIxT K)) (pv 2) pe_int (fun _ _ => rfl)) (pv 1) (nomark _))) (fun A s H code fp pn r => pv 2))), ?_⟩
    obtain ⟨ds, ht, all⟩ := tv_ref tv
    have dl : ds.length = m.length := by rw [all.len, List.length_map]
    refine ⟨.ref t, rfl, t, rfl, ⟨ds, SqT.of ht⟩, hT, fun H2 tb => gt_tup (xs := ds) (fun (ys : List V) i H' => TvAll H' ys ((upM u (m.take i)).map deedP) ∧ Ks K H H') (fun _ i H' _ w => SqT.of (w.2.t _ _ ht)) (fun ys i x H' hx w => ?_) (fun ys H' w => ?_) (c0 := []) ⟨.nil, Ks.tab CA.sk hT tb⟩⟩
    · obtain ⟨tvy, ks⟩ := w
      obtain ⟨x0, hx0, tvx⟩ := tv_at all hx
      have il : i < m.length := (List.getElem?_eq_some_iff.mp hx0).1
      have tvx' := tvx.mv (ks_kt ks)
      obtain ⟨dt, rfl, hdt⟩ := tv_deed tvx'
      refine ⟨rfl, .ref dt, rfl, dt, _, _, iV x0.1, rfl, rfl, SqT.of hdt, atI_nat (j := 0) rfl, iV u, rfl, _, _, rfl, rfl, _, rfl, ite2 (fun c => ?_) (fun c => ?_)⟩
      · have c' : x0.1 ≤ u := by have := of_decide_eq_true c; omega
        refine ⟨.ref dt, rfl, ?_, ?_, ks⟩
        · rw [tvy.len, List.length_map]
          refine Nat.lt_of_le_of_lt (List.length_filter_le _ _) ?_
          rw [List.length_take]
          exact Nat.lt_of_le_of_lt (Nat.min_le_left _ _) (Nat.lt_of_lt_of_le il (Nat.le_trans bm (by decide)))
        · rw [filter_snoc u hx0, if_pos c', List.map_append]
          exact tvy.app (.cons tvx' .nil)
      · have c' : ¬ x0.1 ≤ u := fun z => c (decide_eq_true (by omega))
        refine ⟨?_, ks⟩
        rw [filter_snoc u hx0, if_neg c', List.append_nil]
        exact tvy
    · obtain ⟨tvy, ks⟩ := w
      rw [dl, List.take_length] at tvy
      refine ⟨?_, fun p np => ?_⟩
      · rw [tvy.len, List.length_map]
        exact Nat.le_trans (List.length_filter_le _ _) (Nat.le_trans bm (by decide))
      · have ep := Ex.new (o := HO.tup ys) np
        exact q p _ (.tup upd_same (tvy.mv (Kt.ex ep))) (ks.trans (Ks.ex ep))
def spAbove (K : PySem.W.Frag) (Pu Pt : Addr) : Sp := fun vs H Q _ => ∃ (t : Addr) (L : LifeT) (u : Nat), vs = [.ref t, iV u] ∧ Tv H (.ref t) (lifeP L) ∧ (∀ s ∈ L, s.2.length ≤ 1000 ∧ ∀ m ∈ s.2, m.length ≤ 1000) ∧ L.length ≤ 1000 ∧ GxR.TabG H Pu ∧ GxR.TabG H Pt ∧ ∀ (t' : Addr) H', Tv H' (.ref t') (lifeP (upT u L)) → Ks K H H' → Q (.ref t') H'
theorem ok_above {f fU c Pu Pt : Addr} {fd fdU : FuncData} (F : FnP K "above" s_above f fd) (B : Blt mg) (CA : CodeAt K mg base fd c Pt) (TU : Fn P w K mg base CX0 2 "upper_moment" ["moment", "drawer"] (spUpM K Pu) fU fdU) : FnOk P w K mg base CX 4 f fd ["life", "drawer"] (spAbove K Pu Pt) := by
  obtain ⟨oc, od, dV, kV, doc, pm, an, cdv, ct, osl, rfl, lk, hcd, _, _⟩ := F.ex
  obtain rfl : cdv = .ref c := CA.e
  refine fn_of (k := 3) lk hcd sc_above (fun vs H Q E h => ?_) (fun A outer s H vs Q E hr h => ?_)
  · obtain ⟨t, L, u, rfl, _⟩ := h
    rfl
  · obtain ⟨t, L, u, rfl, tv, b1, b2, hTu, hT, q⟩ := h
    refine ⟨_, (pss_cons (ps_set (i := 2) sc_above.nd rfl (Or.inl rfl) (pe_lst pa_nil))
    (pss_cons (ps_for (passes_of rfl) rfl (pi_tup (pv 0)) (pg_tup rfl (pgs_cons (pg_name (i := 3) sc_above.nd rfl (Or.inl rfl)) (pgs_cons (pg_name (i := 4) sc_above.nd rfl (Or.inl rfl)) pgs_nil))) (pss_cons (ps_set (i := 5) sc_above.nd rfl (Or.inl rfl) (pe_tupG (own := [("moment", 6)]) (g := gName 6) (k := 2) hr (by rfl) B.tuple CA.tb rfl (genOk_by (by rfl)) sc_above.nd (pi_tup (pv 4)) (fun A s H code fp pn r => pg_name (i := 6) sc_above.nd rfl (Or.inl rfl)) (fun A s H code fp pn r => pts_nil)
        (fun A s H code fp pn r => pe_call TU.G r (by rfl) TU.m TU.k TU.b .nil pass0 (pa_cons (pv 6) (pa_cons (pv 1) pa_nil)))))
    (pss_one (ps_expr (pe_bm PySem.F.plainAttrs_list PySem.F.slot_list_append PySem.F.type_list_append mt_append (pv 2) (pa_cons (pe_tup (pa_cons (pe_callB (call_min2 rfl) (by rfl) B.min (by decide +kernel) (pa_cons (pv 3) (pa_cons (pv 1) pa_nil))) (pa_cons (pv 5) pa_nil))) pa_nil))))))
    (pss_one (ps_ret (pe_callTy call_tuple_of (by rfl) B.tuple (by decide +kernel) (pa_cons (pv 2) pa_nil)))))), ?_⟩
    obtain ⟨ss, hs, all⟩ := tv_ref tv
    have hl : ss.length = L.length := by rw [all.len, List.length_map]
    refine ⟨Nat.zero_le _, fun F nF => ⟨.ref t, rfl, t, rfl, ⟨ss, SqT.of ((Ex.new (o := HO.lst []) nF) _ _ hs)⟩, ?_⟩⟩
    refine for_tup (xs := ss) (fun i σ G => ∃ (ws : List V) (y3 y4 y5 : Option V), σ = [some (.ref t), some (iV u), some (.ref F), y3, y4, y5, none] ∧ G F = some (.lst ws) ∧ TvAll G ws ((upT u (L.take i)).map sessP) ∧ Kd K F H G) ⟨[], none, none, none, rfl, upd_same, .nil, Kd.upd⟩ (fun i σ G _ w => by obtain ⟨_, _, _, _, _, _, _, k⟩ := w; exact SqT.of ((k.ks nF).t _ _ hs)) (fun i x σ G hx w => ?_) (fun σ G w => ?_)
    · obtain ⟨ws, y3, y4, y5, rfl, gF, tvw, kG⟩ := w
      obtain ⟨sx, hsx, tvx⟩ := tv_at all hx
      have il : i < L.length := (List.getElem?_eq_some_iff.mp hsx).1
      obtain ⟨bs, bm⟩ := b1 sx (List.mem_of_getElem? hsx)
      have eG := kG.ks nF
      obtain ⟨tt, su, us, rfl, h1, h2, h3⟩ := tv_sess (tvx.mv (ks_kt eG))
      have hul : us.length = sx.2.length := by rw [h3.len, List.length_map]
      refine ⟨tt, _, rfl, SqT.of h1, rfl, _, _, rfl, _, _, rfl, rfl, .ref su, rfl, su, rfl, ⟨us, SqT.of h2⟩, eG.g _ hT, fun H2 tb => ?_⟩
      have k2 : Ks K G H2 := Ks.tab CA.sk (eG.g _ hT) tb
      refine gt_tup (xs := us) (fun (ys : List V) j H' => TvAll H' ys (((sx.2.take j).map (upM u)).map momP) ∧ Ks K G H') (fun _ j H' _ w => SqT.of (w.2.t _ _ h2)) (fun ys j y H' hy w => ?_) (fun ys H' w => ?_) (c0 := []) ⟨.nil, k2⟩
      · obtain ⟨tvy, ks⟩ := w
        obtain ⟨m, hm, tvm⟩ := tv_at h3 hy
        have jl : j < sx.2.length := (List.getElem?_eq_some_iff.mp hm).1
        have bmm := bm m (List.mem_of_getElem? hm)
        obtain ⟨mt, ds, rfl, hmt, a3⟩ := tv_tup (tvm.mv (ks_kt ks))
        refine ⟨rfl, yes_go ⟨.ref mt, rfl, iV u, rfl, mt, m, u, rfl, .tup hmt a3, bmm, ks.g _ (eG.g _ hTu), fun t' H3 tv3 k3 => ?_⟩⟩
        refine ⟨?_, ?_, ks.trans k3⟩
        · rw [tvy.len, List.length_map, List.length_map, List.length_take]
          exact Nat.lt_of_le_of_lt (Nat.min_le_left _ _) (Nat.lt_of_lt_of_le jl (Nat.le_trans bs (by decide)))
        · rw [take_snoc hm, List.map_append, List.map_append]
          exact (tvy.mv (ks_kt k3)).app (.cons tv3 .nil)
      · obtain ⟨tvy, ks⟩ := w
        rw [hul, List.take_length] at tvy
        refine ⟨?_, fun ts nts => ?_⟩
        · rw [tvy.len, List.length_map, List.length_map]
          exact Nat.le_trans bs (by decide)
        have es := Ex.new (o := HO.tup ys) nts
        have gF2 := es _ _ (ks.l _ _ gF)
        refine ⟨.ref F, rfl, .inl ⟨rfl, _, SqL.of gF2⟩, iV sx.1, rfl, iV u, rfl, _, _, rfl, .ref ts, rfl, by show 2 ≤ sizeLine; decide, fun tp ntp => ?_⟩
        obtain ⟨mn, hmn⟩ : ∃ mn : Nat, (if ((u : Nat) : Int) < ((sx.1 : Nat) : Int) then ((u : Nat) : Int) else ((sx.1 : Nat) : Int)) = (mn : Int) ∧ mn = min sx.1 u := by
          by_cases z : ((u : Nat) : Int) < ((sx.1 : Nat) : Int)
          · exact ⟨u, by rw [if_pos z], by omega⟩
          · exact ⟨sx.1, by rw [if_neg z], by omega⟩
        rw [hmn.1]
        have ep := Ex.new (o := HO.tup [iV mn, .ref ts]) ntp
        have gFp := ep _ _ gF2
        refine ⟨F, ws, _, rfl, rfl, gFp, ?_, ws ++ [.ref tp], some (iV sx.1), some (.ref su), some (.ref ts), rfl, upd_same, ?_, ?_⟩
        · rw [tvw.len, List.length_map, upT, List.length_map, List.length_take]
          exact Nat.lt_of_le_of_lt (Nat.min_le_left _ _) (Nat.lt_of_lt_of_le il (Nat.le_trans b2 (by decide)))
        · unfold upT
          rw [take_snoc hsx, List.map_append, List.map_append]
          have m1 : Kt G _ := (ks_kt ks).trans ((Kt.ex es).trans (Kt.ex ep))
          refine TvAll.mv (TvAll.app (tvw.mv m1) ?_) (Kt.put gFp)
          refine .cons ?_ .nil
          show Tv _ _ (sessP (min sx.1 u, sx.2.map (upM u)))
          rw [← hmn.2]
          exact .tup upd_same (.cons (.int _) (.cons (.tup (ep _ _ upd_same) ((tvy.mv (Kt.ex es)).mv (Kt.ex ep))) .nil))
        · exact (((kG.trans (Kd.of ks)).trans (Kd.of (Ks.ex es))).trans (Kd.of (Ks.ex ep))).trans Kd.upd
    · obtain ⟨ws, y3, y4, y5, rfl, gF, tvw, kG⟩ := w
      rw [hl, List.take_length] at tvw
      refine ⟨.ref F, rfl, F, ws, rfl, .inl ⟨SqL.of gF, fun t' nt => ?_⟩⟩
      have et := Ex.new (o := HO.tup ws) nt
      exact q t' _ (.tup upd_same (tvw.mv (Kt.ex et))) ((kG.ks nF).trans (Ks.ex et))
end
end K01

set_option maxHeartbeats 4000000
namespace K01
open PySem PySem.Spec PyProof.Rows L2 Hd Evl
/-! ### the law's own looks at moments, stories, lives -/
def isIntD : PyData → Bool
  | .int _ => true
  | _ => false
/-- data that can be compared -/
def FineD (e : PyData) : Prop := PyData.canLay0 e = true ∧ PyData.depth e ≤ 60
theorem fine_all : ∀ {ds : List PyData}, PyData.canLayAll0 ds = true → ∀ x ∈ ds, PyData.canLay0 x = true
  | d :: ds, h, x, hx => by
    have h' : (PyData.canLay0 d && PyData.canLayAll0 ds) = true := by simpa [PyData.canLayAll0] using h
    rw [Bool.and_eq_true] at h'
    rcases List.mem_cons.mp hx with rfl | z
    · exact h'.1
    · exact fine_all h'.2 x z
theorem lay_of : ∀ {ds : List PyData}, (∀ x ∈ ds, PyData.canLay0 x = true) → PyData.canLayAll0 ds = true
  | [], _ => by simp [PyData.canLayAll0]
  | d :: ds, h => by
    have a := h d List.mem_cons_self
    have b := lay_of fun x hx => h x (List.mem_cons_of_mem _ hx)
    simp [PyData.canLayAll0, a, b]
theorem depth_all : ∀ {ds : List PyData} {x : PyData}, x ∈ ds → PyData.depth x ≤ PyData.depthAll ds
  | d :: ds, x, hx => by
    rcases List.mem_cons.mp hx with rfl | z
    · simp only [PyData.depthAll]; omega
    · have := depth_all z
      simp only [PyData.depthAll]; omega
theorem depth_of : ∀ {ds : List PyData} {n : Nat}, (∀ x ∈ ds, PyData.depth x ≤ n) → PyData.depthAll ds ≤ n
  | [], n, _ => by simp [PyData.depthAll]
  | d :: ds, n, h => by
    have a := h d List.mem_cons_self
    have b := depth_of fun x hx => h x (List.mem_cons_of_mem _ hx)
    simp only [PyData.depthAll]; omega
theorem FineD.tup {ds : List PyData} (h : FineD (.tuple ds)) : ∀ x ∈ ds, FineD x := fun x hx => by
  obtain ⟨a, b⟩ := h
  refine ⟨fine_all (by simpa [PyData.canLay0] using a) x hx, ?_⟩
  have := depth_all hx
  have e : PyData.depth (.tuple ds) = PyData.depthAll ds + 1 := by simp [PyData.depth] <;> omega
  omega
theorem FineD.shapedL {ds : List PyData} (h : ∀ x ∈ ds, FineD x) : SeqAt.shaped (.list ds) = true := by
  unfold SeqAt.shaped
  rw [Bool.and_eq_true]
  refine ⟨by simpa [PyData.canLay0] using lay_of fun x hx => (h x hx).1, decide_eq_true ?_⟩
  have := depth_of fun x hx => (h x hx).2
  have e : PyData.depth (.list ds) = PyData.depthAll ds + 1 := by simp [PyData.depth] <;> omega
  omega
section
variable {K : PySem.W.Frag} {r : Addr} {H : Hp} {v : V} {e : PyData}
theorem dv_isI (h : Dv r H v e) : ∃ s, KindV K H v s ∧ (!isK s "int" || isK s "bool") = !isIntD e := by
  cases h with
  | non => exact ⟨_, .non, (by decide : (!isK "NoneType" "int" || isK "NoneType" "bool") = true)⟩
  | bl b => exact ⟨_, .bl b, (by decide : (!isK "bool" "int" || isK "bool" "bool") = true)⟩
  | int i => exact ⟨_, .int i, (by decide : (!isK "int" "int" || isK "int" "bool") = false)⟩
  | str x => exact ⟨_, .str x, (by decide : (!isK "str" "int" || isK "str" "bool") = true)⟩
  | lst n h _ => exact ⟨_, .lst h, (by decide : (!isK "list" "int" || isK "list" "bool") = true)⟩
  | tup h _ => exact ⟨_, .tup h, (by decide : (!isK "tuple" "int" || isK "tuple" "bool") = true)⟩
end
section
variable {CX : CXT} {P : Program} {w : World} {K : PySem.W.Frag} {mg : Str → Option Value} {base : Heap}
theorem lst_nt {r : Addr} {H : Hp} (h : ∃ ys, H r = some (.lst ys)) (xs : List V) : H r ≠ some (.tup xs) := fun e => by
  obtain ⟨ys, q⟩ := h
  rw [q] at e
  cases e
theorem three_of {r : Addr} {H : Hp} {zs : List V} {es : List PyData} (h : DvAll r H zs es) (l : es.length = 3) : ∃ z1 z2 z3 d1 d2 d3, zs = [z1, z2, z3] ∧ es = [d1, d2, d3] ∧ Dv r H z1 d1 ∧ Dv r H z2 d2 ∧ Dv r H z3 d3 := by
  match es, l with
  | [d1, d2, d3], _ =>
    cases h with
    | cons q1 h =>
      cases h with
      | cons q2 h =>
        cases h with
        | cons q3 h =>
          cases h
          exact ⟨_, _, _, _, _, _, rfl, rfl, q1, q2, q3⟩
theorem dv_snoc {r : Addr} {H : Hp} {vs : List V} {ds : List PyData} {v : V} {d : PyData} (h : DvAll r H vs ds) (g : Dv r H v d) : DvAll r H (vs ++ [v]) (ds ++ [d]) := DvAll.app h (.cons g .nil)
theorem dv_int {r : Addr} {H : Hp} {v : V} {d : PyData} (h : Dv r H v d) (i : isIntD d = true) : ∃ n, v = .int n ∧ d = .int n := by
  cases h with
  | int n => exact ⟨n, rfl, rfl⟩
  | _ => cases i
structure IsMomP (K : PySem.W.Frag) (vs : List V) (H : Hp) (Q : VK) : Prop where
  go : ∃ (r hs : Addr) (n k d p c u : Nat) (v : V) (e : PyData), vs = [.ref hs, v, iV u] ∧ HouseAt H hs n k d p c ∧ Dv r H v e ∧ FineD e ∧ (∃ ys, H r = some (.lst ys)) ∧ ∀ H', Ex H H' → Q (.bl (momD (u + 1) p e)) H'
def spIsMom (K : PySem.W.Frag) : Sp := fun vs H Q _ => IsMomP K vs H Q
theorem ok_isMom {f : Addr} {fd : FuncData} (F : FnP K "_law_is_moment" s__law_is_moment f fd) (B : Blt mg) : FnOk P w K mg base CX 1 f fd ["house", "value", "deepest"] (spIsMom K) := by
  refine F.ok (CX := CX) sc__law_is_moment (fun vs H Q E h => ?_) (fun cdv A outer s H vs Q E hr h => ?_)
  · obtain ⟨r, hs, n, k, d, p, c, u, v, e, rfl, _⟩ := h
    rfl
  · obtain ⟨r, hs, n, k, d, p, c, u, v, e, rfl, hh, dv, fine, nr0, q⟩ := h
    have un : (A.deeper (envOfC "_law_is_moment" (defScope s__law_is_moment) s.heap.objs.size f cdv)).units + 64 < cLine := by have := hr.un; omega
    refine ⟨_, (pss_cons (ps_if (PW.pt (pw_or (pt_not (pt_val (pe_callB call_isS (by rfl) B.isinstance (by decide +kernel) (pa_cons (pv 1) (pa_cons (pe_ty "tuple" (by rfl) B.tuple (by decide +kernel)) pa_nil))))) (pw_or1 (pt_cmpR op_gt (pe_callB call_len_seq (by rfl) B.len (by decide +kernel) (pa_cons (pv 1) pa_nil)) pe_int (nomark _))))) (pss_one (ps_ret pe_bl)) pss_nil)
    (pss_cons (ps_for (passes_of rfl) rfl (pi_tup (pv 1)) (pg_name (i := 3) sc__law_is_moment.nd rfl (Or.inl rfl)) (pss_cons (ps_if (PW.pt (pw_or (pt_not (pt_val (pe_callB call_isS (by rfl) B.isinstance (by decide +kernel) (pa_cons (pv 3) (pa_cons (pe_ty "tuple" (by rfl) B.tuple (by decide +kernel)) pa_nil))))) (pw_or (pt_cmpR op_ne (pe_callB call_len_seq (by rfl) B.len (by decide +kernel) (pa_cons (pv 3) pa_nil)) pe_int (nomark _)) (pw_or1 (pt_cmpR (op_neD un) (pe_lc (own := [("k", 4)]) (g := gName 4) (by rfl) sc__law_is_moment.nd (pi_tup (pv 3)) (blkOk_by (own := [("k", 4)]) (N := n__law_is_moment) (sc := defScope s__law_is_moment) (by decide +kernel)) (fun _ _ _ _ _ => pg_name (i := 4) sc__law_is_moment.nd rfl (Or.inl rfl)) (fun _ _ _ _ _ => pts_one (PW.pt (pw_or (pt_not (pt_val (pe_callB (call_isS : CallR _ _ (rIsS K)) (by rfl) B.isinstance (by decide +kernel) (pa_cons (pv 4) (pa_cons (pe_ty "int" (by rfl) B.int (by decide +kernel)) pa_nil))))) (pw_or1 (pt_val (pe_callB (call_isS : CallR _ _ (rIsS K)) (by rfl) B.isinstance (by decide +kernel) (pa_cons (pv 4) (pa_cons (pe_ty "bool" (by rfl) B.bool (by decide +kernel)) pa_nil)))))))) (fun _ _ _ _ _ => (pv 4))) (pe_lst pa_nil) (nomark _)))))) (pss_one (ps_ret pe_bl)) pss_nil)
    (pss_one (ps_if (PW.pt (pw_or (pt_not (pt_chain op_le op_le pe_int (pe_ix ix_tup (pv 3) pe_int (fun _ _ => rfl)) (pv 2))) (pw_or (pt_not (pt_chain op_le op_lt pe_int (pe_ix ix_tup (pv 3) pe_int (fun _ _ => rfl)) (pe_ix ix_tup (pv 0) pe_int (fun _ _ => rfl)))) (pw_or1 (pt_not (pt_chain op_le op_le pe_int (pe_ix ix_tup (pv 3) pe_int (fun _ _ => rfl)) pe_int)))))) (pss_one (ps_ret pe_bl)) pss_nil))))
    (pss_one (ps_ret pe_bl)))), ?_⟩
    have no : ∀ {ds : List PyData} {i : Nat} {x : PyData}, ds[i]? = some x → deedD (u + 1) p x = false → momD (u + 1) p (.tuple ds) = false := fun {ds i x} h1 h2 => by
      show (decide (ds.length ≤ 6) && (ds.map (deedD (u + 1) p)).all id) = false
      cases z : (ds.map (deedD (u + 1) p)).all id with
      | false => rw [Bool.and_false]
      | true =>
        have := List.all_eq_true.mp z (deedD (u + 1) p x) (List.mem_map_of_mem (List.mem_of_getElem? h1))
        rw [h2] at this
        cases this
    have qf : momD (u + 1) p e = false → ∀ G, Ex H G → Q (.bl false) G := fun z G eG => by have := q G eG; rw [z] at this; exact this
    obtain ⟨sv, kv, ev⟩ := dv_kind (K := K) dv
    refine ⟨v, rfl, v, sv, "tuple", _, rfl, kv.ty, kv.isT, _, rfl, ?_⟩
    rw [ev]
    cases dv with
    | non => exact iteT (iteT (qf rfl _ (Ex.refl _)))
    | bl b => exact iteT (iteT (qf rfl _ (Ex.refl _)))
    | int i => exact iteT (iteT (qf rfl _ (Ex.refl _)))
    | str x => exact iteT (iteT (qf rfl _ (Ex.refl _)))
    | lst n h _ => exact iteT (iteT (qf rfl _ (Ex.refl _)))
    | @tup t xs ds ht all =>
      have len := all.len
      refine iteF ⟨.ref t, rfl, t, xs, rfl, .inr (SqT.of ht), _, _, rfl, rfl, _, rfl, ?_⟩
      by_cases h6 : ds.length ≤ 6
      · rw [decide_eq_false (show ¬ (6 : Int) < (xs.length : Int) by omega)]
        refine iteF ⟨.ref t, rfl, t, rfl, ⟨xs, SqT.of ht⟩, for_tup (xs := xs) (fun i σ G => ∃ y3, σ = [some (.ref hs), some (.ref t), some (iV u), y3, none] ∧ Ex H G ∧ ((ds.take i).map (deedD (u + 1) p)).all id = true) ⟨none, rfl, Ex.refl _, rfl⟩ (fun i σ G _ w => by obtain ⟨_, _, e, _⟩ := w; exact SqT.of (e _ _ ht)) (fun i x σ G hx w => ?_) (fun σ G w => ?_)⟩
        · obtain ⟨y3, rfl, eG, al⟩ := w
          obtain ⟨dx, hdx, dvx0⟩ := all.at_ hx
          have dvx : Dv r G x dx := Hd.Dv.kr (Kr.ex eG) (lst_nt nr0) dx x dvx0
          have fx := fine.tup dx (List.mem_of_getElem? hdx)
          have bad : deedD (u + 1) p dx = false → ∀ G', Ex G G' → Q (.bl false) G' := fun z G' e' => qf (no hdx z) G' (eG.trans e')
          obtain ⟨sx, kx, ex⟩ := dv_kind (K := K) dvx
          refine ⟨x, rfl, x, sx, "tuple", _, rfl, kx.ty, kx.isT, _, rfl, ?_⟩
          rw [ex]
          cases dvx with
          | non => exact iteT (iteT (bad rfl _ (Ex.refl _)))
          | bl b => exact iteT (iteT (bad rfl _ (Ex.refl _)))
          | int i => exact iteT (iteT (bad rfl _ (Ex.refl _)))
          | str x => exact iteT (iteT (bad rfl _ (Ex.refl _)))
          | lst n h _ => exact iteT (iteT (bad rfl _ (Ex.refl _)))
          | @tup dt zs es hdt a3 =>
            have l3 := a3.len
            refine iteF ⟨.ref dt, rfl, dt, zs, rfl, .inr (SqT.of hdt), rfl, _, rfl, ?_⟩
            by_cases h3 : es.length = 3
            · obtain ⟨z1, z2, z3, d1, d2, d3, rfl, rfl, q1, q2, q3⟩ := three_of a3 h3
              refine iteF ⟨.ref dt, rfl, dt, rfl, ⟨[z1, z2, z3], SqT.of hdt⟩, fun D nD => ?_⟩
              have nrG : ∃ ys, G r = some (.lst ys) := nr0.elim fun ys z => ⟨ys, eG _ _ z⟩
              have nDr : D ≠ r := fun z => by
                obtain ⟨ys, g⟩ := nrG
                rw [← z, nD] at g
                cases g
              refine lc_tup (xs := [z1, z2, z3]) (fun i G' => ∃ ws, G' D = some (.lst ws) ∧ DvAll r G ws (([d1, d2, d3].take i).filter fun y => !isIntD y) ∧ Kq D G G') ⟨[], upd_same, .nil, Kq.row⟩ (fun i G' _ w => by obtain ⟨_, _, _, e⟩ := w; exact SqT.of (e.ofNew nD _ _ hdt)) (fun i y G' hy w => ?_) (fun G' w => ?_)
              · obtain ⟨ws, gD, dvw, kD⟩ := w
                obtain ⟨dy, hdy, dvy⟩ := a3.at_ hy
                have eD := kD.ofNew nD
                have dvy' : Dv r G' y dy := Hd.Dv.kr (Kr.ex eD) (lst_nt nrG) dy y dvy
                obtain ⟨sy, ky, ey⟩ := dv_isI (K := K) dvy'
                have wl : ws.length < sizeLine := by
                  rw [dvw.len]
                  refine Nat.lt_of_le_of_lt (List.length_filter_le _ _) (Nat.lt_of_le_of_lt ?_ (show 3 < sizeLine by decide))
                  rw [List.length_take]
                  exact Nat.min_le_right _ _
                have ft : ([d1, d2, d3].take (i + 1)).filter (fun y => !isIntD y) = ([d1, d2, d3].take i).filter (fun y => !isIntD y) ++ (if isIntD dy then [] else [dy]) := by
                  rw [take_snoc hdy, List.filter_append]
                  cases z : isIntD dy <;> simp [z]
                refine ⟨rfl, y, rfl, y, sy, "int", _, rfl, ky.ty, ky.isI, _, rfl, ?_⟩
                cases z1 : isK sy "int" with
                | false =>
                  rw [z1] at ey
                  have zi : isIntD dy = false := by simpa using ey.symm
                  refine iteT (iteT ⟨y, rfl, ws, gD, wl, ws ++ [y], upd_same, ?_, kD.trans Kq.row⟩)
                  rw [ft, zi]
                  exact dv_snoc dvw dvy
                | true =>
                  rw [z1] at ey
                  refine iteF ⟨y, rfl, y, sy, "bool", _, rfl, ky.ty, ky.isB, _, rfl, ?_⟩
                  cases z2 : isK sy "bool" with
                  | false =>
                    rw [z2] at ey
                    have zi : isIntD dy = true := by simpa using ey.symm
                    refine iteF ⟨ws, gD, ?_, kD⟩
                    rw [ft, zi]
                    simpa using dvw
                  | true =>
                    rw [z2] at ey
                    have zi : isIntD dy = false := by simpa using ey.symm
                    refine iteT ⟨y, rfl, ws, gD, wl, ws ++ [y], upd_same, ?_, kD.trans Kq.row⟩
                    rw [ft, zi]
                    exact dv_snoc dvw dvy
              · obtain ⟨ws, gD, dvw, kD⟩ := w
                have eD := kD.ofNew nD
                have dvw2 : DvAll r G ws ([d1, d2, d3].filter fun y => !isIntD y) := dvw
                refine ⟨Nat.zero_le _, fun l nl => ?_⟩
                have el := Ex.new (o := HO.lst []) nl
                have fl : ∀ y ∈ [d1, d2, d3].filter (fun y => !isIntD y), FineD y := fun y hy => fx.tup y (List.mem_filter.mp hy).1
                have dp := Hd.Dv.dpAll K _ _ (Hd.Dv.krAll (Kr.ex (eD.trans el)) (lst_nt nrG) _ _ dvw2)
                refine ⟨.list ([d1, d2, d3].filter fun y => !isIntD y), .list [], .lst (SqL.of (el _ _ gD)) dp, .lst (SqL.of upd_same) .nil, FineD.shapedL fl, rfl, _, rfl, ?_⟩
                by_cases hi : isIntD d1 = true ∧ isIntD d2 = true ∧ isIntD d3 = true
                · obtain ⟨i1, i2, i3⟩ := hi
                  have e0 : ([d1, d2, d3].filter fun y => !isIntD y) = [] := by simp [i1, i2, i3]
                  rw [e0, show PyData.eqv (.list []) (.list []) = true from rfl]
                  refine iteF ?_
                  obtain ⟨n1, rfl, rfl⟩ := dv_int q1 i1
                  obtain ⟨n2, rfl, rfl⟩ := dv_int q2 i2
                  obtain ⟨n3, rfl, rfl⟩ := dv_int q3 i3
                  have eDl := eD.trans el
                  have hdt' := eDl _ _ hdt
                  have hh' := hh.ex (eG.trans eDl)
                  have val : deedD (u + 1) p (.tuple [.int n1, .int n2, .int n3]) = ((decide (0 ≤ n1) && decide (n1 ≤ (u : Int))) && ((decide (0 ≤ n2) && decide (n2 < (p : Int))) && (decide (0 ≤ n3) && decide (n3 ≤ 9)))) := by
                    show ((decide (0 ≤ n1) && decide (n1 ≤ ((u + 1 : Nat) : Int) - 1)) && ((decide (0 ≤ n2) && decide (n2 ≤ (p : Int) - 1)) && (decide (0 ≤ n3) && decide (n3 ≤ 9)))) = _
                    rw [show ((u + 1 : Nat) : Int) - 1 = (u : Int) by omega, show decide (n2 ≤ (p : Int) - 1) = decide (n2 < (p : Int)) by by_cases z : n2 < (p : Int) <;> simp <;> omega]
                  have ko : deedD (u + 1) p (.tuple [.int n1, .int n2, .int n3]) = false → Q (.bl false) (upd G' l (.lst [])) := fun z => bad z _ eDl
                  refine ⟨.ref dt, rfl, dt, _, _, .int n1, rfl, rfl, SqT.of hdt', atI_nat (j := 0) rfl, _, _, rfl, rfl, _, rfl, ite2 (fun c1 => ⟨iV u, rfl, _, _, rfl, rfl, _, rfl, ?_⟩) (fun c1 => ⟨_, rfl, iteT (iteT (ko (by rw [val, Bool.eq_false_iff.mpr c1] <;> rfl)))⟩)⟩
                  cases c2 : decide (n1 ≤ (u : Int)) with
                  | false => exact iteT (iteT (ko (by rw [val, c2, Bool.and_false, Bool.false_and])))
                  | true =>
                    refine iteF ⟨.ref dt, rfl, dt, _, _, .int n2, rfl, rfl, SqT.of hdt', atI_nat (j := 1) rfl, _, _, rfl, rfl, _, rfl, ite2 (fun c3 => ⟨.ref hs, rfl, hs, _, _, .int p, rfl, rfl, SqT.of hh'.at_, atI_nat (j := 3) rfl, _, _, rfl, rfl, _, rfl, ?_⟩) (fun c3 => ⟨_, rfl, iteT (iteT (ko (by rw [val, Bool.eq_false_iff.mpr c3, Bool.false_and, Bool.false_and, Bool.and_false])))⟩)⟩
                    cases c4 : decide (n2 < (p : Int)) with
                    | false => exact iteT (iteT (ko (by rw [val, c4, Bool.and_false, Bool.false_and, Bool.and_false])))
                    | true =>
                      refine iteF ⟨.ref dt, rfl, dt, _, _, .int n3, rfl, rfl, SqT.of hdt', atI_nat (j := 2) rfl, _, _, rfl, rfl, _, rfl, ite2 (fun c5 => ⟨_, _, rfl, rfl, _, rfl, ?_⟩) (fun c5 => ⟨_, rfl, iteT (ko (by rw [val, Bool.eq_false_iff.mpr c5, Bool.false_and, Bool.and_false, Bool.and_false]))⟩)⟩
                      cases c6 : decide (n3 ≤ (9 : Int)) with
                      | false => exact iteT (ko (by rw [val, c6, Bool.and_false, Bool.and_false, Bool.and_false]))
                      | true =>
                        refine iteF ⟨some (.ref dt), rfl, eG.trans eDl, ?_⟩
                        rw [take_snoc hdx, List.map_append, List.all_append, al]
                        show (true && ([deedD (u + 1) p (.tuple [.int n1, .int n2, .int n3])].all id)) = true
                        rw [val, c1, c2, c3, c4, c5, c6] <;> rfl
                · have ne : ∃ a b, ([d1, d2, d3].filter fun y => !isIntD y) = a :: b := by
                    cases i1 : isIntD d1 with
                    | false => exact ⟨_, _, by simp [i1]; exact ⟨rfl, rfl⟩⟩
                    | true =>
                      cases i2 : isIntD d2 with
                      | false => exact ⟨_, _, by simp [i1, i2]; exact ⟨rfl, rfl⟩⟩
                      | true =>
                        cases i3 : isIntD d3 with
                        | false => exact ⟨_, _, by simp [i1, i2, i3]; exact ⟨rfl, rfl⟩⟩
                        | true => exact absurd ⟨i1, i2, i3⟩ hi
                  obtain ⟨a0, b0, e0⟩ := ne
                  rw [e0, show PyData.eqv (.list (a0 :: b0)) (.list []) = false from rfl]
                  refine iteT (bad ?_ _ (eD.trans el))
                  show (numD d1 0 (((u + 1 : Nat) : Int) - 1) && (numD d2 0 ((p : Int) - 1) && numD d3 0 9)) = false
                  have nn : ∀ {y : PyData} {lo hi : Int}, isIntD y = false → numD y lo hi = false := fun {y lo hi} z => by
                    cases y <;> first | rfl | cases z
                  cases i1 : isIntD d1 with
                  | false => rw [nn i1] <;> rfl
                  | true =>
                    cases i2 : isIntD d2 with
                    | false => rw [nn i2, Bool.false_and, Bool.and_false]
                    | true =>
                      cases i3 : isIntD d3 with
                      | false => rw [nn i3, Bool.and_false, Bool.and_false]
                      | true => exact absurd ⟨i1, i2, i3⟩ hi
            · have e3 : (!decide (V.int (zs.length : Int) = V.int 3)) = true := by
                rw [decide_eq_false (fun z => h3 (by injection z with z; omega))] <;> rfl
              rw [e3]
              refine iteT (iteT (bad ?_ _ (Ex.refl _)))
              match es, h3 with
              | [], _ => rfl
              | [_], _ => rfl
              | [_, _], _ => rfl
              | [_, _, _], h => exact absurd rfl h
              | _ :: _ :: _ :: _ :: _, _ => rfl
        · obtain ⟨y3, rfl, eG, al⟩ := w
          rw [len, List.take_length] at al
          have := q G eG
          have e5 : momD (u + 1) p (.tuple ds) = true := by
            show (decide (ds.length ≤ 6) && (ds.map (deedD (u + 1) p)).all id) = true
            rw [decide_eq_true h6, al] <;> rfl
          rw [e5] at this
          exact this
      · rw [decide_eq_true (show (6 : Int) < (xs.length : Int) by omega)]
        refine iteT (qf ?_ _ (Ex.refl _))
        show (decide (ds.length ≤ 6) && (ds.map (deedD (u + 1) p)).all id) = false
        rw [decide_eq_false h6] <;> rfl
end
end K01

set_option maxHeartbeats 4000000
namespace K01
open PySem PySem.Spec PyProof.Rows L2 Hd Evl
/-! #### the first wrong place -/
def badIx (bs : List Bool) (i : Nat) : List Nat := (List.range i).filter fun j => bs[j]? == some false
theorem badIx_snoc {bs : List Bool} {i : Nat} {b : Bool} (h : bs[i]? = some b) : badIx bs (i + 1) = badIx bs i ++ (if b then [] else [i]) := by
  unfold badIx
  rw [List.range_succ, List.filter_append]
  cases b <;> simp [h]
theorem badIx_nil {bs : List Bool} : badIx bs bs.length = [] ↔ bs.all id = true := by
  unfold badIx
  rw [List.filter_eq_nil_iff, List.all_eq_true]
  constructor
  · intro h x hx
    obtain ⟨i, hi⟩ := List.mem_iff_getElem?.mp hx
    have := h i (List.mem_range.mpr (List.getElem?_eq_some_iff.mp hi).1)
    cases x with
    | true => rfl
    | false => exact absurd (by rw [hi]; rfl) this
  · intro h i hi z
    have hl := List.mem_range.mp hi
    have e : bs[i]? = some bs[i] := List.getElem?_eq_getElem hl
    have := h bs[i] (List.getElem_mem hl)
    rw [e] at z
    have z' : bs[i] = false := by simpa using z
    rw [z'] at this
    cases this
/-- the head of the wrong places is the first -/
theorem badIx_head {bs : List Bool} {i : Nat} {r : List Nat} (h : badIx bs bs.length = i :: r) : bs[i]? = some false ∧ (bs.take i).all id = true := by
  have key : ∀ (n : Nat) (r : List Nat), badIx bs n = i :: r → n ≤ bs.length → bs[i]? = some false ∧ (bs.take i).all id = true := by
    intro n
    clear h
    induction n with
    | zero => intro r h; cases h
    | succ n ih =>
      intro r h hn
      have e : bs[n]? = some bs[n] := List.getElem?_eq_getElem (by omega)
      rw [badIx_snoc e] at h
      cases hb : badIx bs n with
      | nil =>
        rw [hb, List.nil_append] at h
        cases hz : bs[n] with
        | true => rw [hz] at h; cases h
        | false =>
          rw [hz] at h
          obtain rfl : n = i := by injection h
          refine ⟨by rw [e, hz], ?_⟩
          have l : (bs.take n).length = n := by rw [List.length_take]; omega
          have : badIx (bs.take n) (bs.take n).length = [] := by
            rw [l]
            unfold badIx at hb ⊢
            rw [List.filter_eq_nil_iff] at hb ⊢
            intro j hj
            rw [List.getElem?_take_of_lt (List.mem_range.mp hj)]
            exact hb j hj
          exact badIx_nil.mp this
      | cons a b =>
        rw [hb] at h
        have e2 : a = i := by injection h
        exact ih b (by rw [hb, e2]) (by omega)
  exact key _ _ h (Nat.le_refl _)
def wrongS (d p : Nat) (e : PyData) : Option (Option Nat) := match storyD d p e with
  | none => some none
  | some bs => (match badIx bs bs.length with
    | [] => none
    | i :: _ => some (some i))
def wV : Option (Option Nat) → V
  | none => .non
  | some none => .str "none"
  | some (some i) => iV i
theorem wrongS_none {d p : Nat} {e : PyData} : wrongS d p e = none ↔ okS (storyD d p e) = true := by
  unfold wrongS
  cases h : storyD d p e with
  | none => exact ⟨fun z => (by cases z), fun z => (by cases z)⟩
  | some bs =>
    show (match badIx bs bs.length with | [] => none | i :: _ => some (some i)) = none ↔ bs.all id = true
    rw [← badIx_nil]
    cases hb : badIx bs bs.length with
    | nil => exact ⟨fun _ => rfl, fun _ => rfl⟩
    | cons a b => exact ⟨fun z => (by cases z), fun z => (by cases z)⟩
/-! #### a session by its own keys -/
theorem deed_eq {d p u : Nat} (h : u < d) (x : PyData) : deedD (u + 1) p x = (deedD d p x && lowD u x) := by
  cases x with
  | tuple ds =>
    match ds with
    | [] => rfl
    | [_] => rfl
    | [_, _] => rfl
    | _ :: _ :: _ :: _ :: _ => rfl
    | [a, b, c] =>
      cases a with
      | int y =>
        show ((decide (0 ≤ y) && decide (y ≤ ((u + 1 : Nat) : Int) - 1)) && (numD b 0 ((p : Int) - 1) && numD c 0 9)) = (((decide (0 ≤ y) && decide (y ≤ (d : Int) - 1)) && (numD b 0 ((p : Int) - 1) && numD c 0 9)) && decide (y ≤ (u : Int)))
        by_cases q : y ≤ (u : Int)
        · rw [decide_eq_true (show y ≤ ((u + 1 : Nat) : Int) - 1 by omega), decide_eq_true (show y ≤ (d : Int) - 1 by omega), decide_eq_true q, Bool.and_true, Bool.and_true]
        · rw [decide_eq_false (show ¬ y ≤ ((u + 1 : Nat) : Int) - 1 by omega), decide_eq_false q, Bool.and_false, Bool.and_false, Bool.false_and]
      | _ => rfl
  | _ => rfl
theorem all_and {α : Type} {f g h : α → Bool} : ∀ {l : List α}, (∀ x ∈ l, f x = (g x && h x)) → (l.map f).all id = ((l.map g).all id && (l.map h).all id)
  | [], _ => rfl
  | x :: r, e => by
    have ih := all_and (l := r) fun y hy => e y (List.mem_cons_of_mem _ hy)
    simp only [List.map_cons, List.all_cons, id, e x List.mem_cons_self, ih]
    cases g x <;> cases h x <;> cases (r.map g).all id <;> cases (r.map h).all id <;> rfl
theorem mom_eq {d p u : Nat} (h : u < d) (m : PyData) : momD (u + 1) p m = (momD d p m && momLowD u m) := by
  cases m with
  | tuple ds =>
    show (decide (ds.length ≤ 6) && (ds.map (deedD (u + 1) p)).all id) = ((decide (ds.length ≤ 6) && (ds.map (deedD d p)).all id) && (ds.map (lowD u)).all id)
    rw [all_and (f := deedD (u + 1) p) (g := deedD d p) (h := lowD u) fun x _ => deed_eq h x, Bool.and_assoc]
  | _ => rfl
theorem story_eq {d p u : Nat} (h : u < d) (s : PyData) : okS (storyD (u + 1) p s) = (okS (storyD d p s) && storyLowD u s) := by
  cases s with
  | tuple ms =>
    by_cases hl : ms.length ≤ 40
    · have e1 : ∀ q, storyD q p (.tuple ms) = some (ms.map (momD q p)) := fun q => if_pos hl
      rw [e1, e1]
      exact all_and (f := momD (u + 1) p) (g := momD d p) (h := momLowD u) fun x _ => mom_eq h x
    · have e1 : ∀ q, storyD q p (.tuple ms) = none := fun q => if_neg hl
      rw [e1, e1]
      rfl
  | _ => rfl
/-! #### the first wrong session -/
def firstL : List (Bool × Nat) → Nat → Nat → Option Nat
  | [], _, _ => none
  | (b, m) :: r, s, i => if b = false then some i else if 40 < s + m then some i else firstL r (s + m) (i + 1)
def wrongL (d p : Nat) (e : PyData) : Option (Option Nat) := match lifeD d p e with
  | none => some none
  | some l => (firstL l 0 0).map some
theorem good_snoc {l : List (Bool × Nat)} {i : Nat} {b : Bool} {m : Nat} (h : l[i]? = some (b, m)) (g : GoodL l i) : GoodL l (i + 1) ↔ b = true ∧ ((l.take i).map (·.2)).sum + m ≤ 40 := by
  unfold GoodL
  rw [take_snoc h, List.all_append, List.map_append, List.sum_append, g.1]
  simp
theorem firstL_spec {l : List (Bool × Nat)} : ∀ {r : List (Bool × Nat)} {i : Nat}, l.drop i = r → i ≤ l.length → GoodL l i →
    (firstL r ((l.take i).map (·.2)).sum i = none → GoodL l l.length) ∧ ∀ j, firstL r ((l.take i).map (·.2)).sum i = some j → GoodL l j ∧ j < l.length ∧ ∀ x, l[j]? = some x → x.1 = false ∨ ¬ GoodL l (j + 1) := by
  intro r
  induction r with
  | nil =>
    intro i hd hi g
    have e : i = l.length := by
      have := congrArg List.length hd
      rw [List.length_drop] at this
      simp at this
      omega
    subst e
    exact ⟨fun _ => g, fun j z => by cases z⟩
  | cons y r ih =>
    intro i hd hi g
    obtain ⟨b, m⟩ := y
    have hl : i < l.length := by
      have := congrArg List.length hd
      rw [List.length_drop] at this
      simp at this
      omega
    have hx : l[i]? = some (b, m) := by
      have := congrArg (fun z => z[0]?) hd
      simpa [List.getElem?_drop] using this
    have hd2 : l.drop (i + 1) = r := by
      have := congrArg (List.drop 1) hd
      simpa [List.drop_drop, Nat.add_comm] using this
    have gs := good_snoc hx g
    have es : ((l.take (i + 1)).map (·.2)).sum = ((l.take i).map (·.2)).sum + m := by
      rw [take_snoc hx, List.map_append, List.sum_append] <;> simp
    by_cases hb : b = false
    · have e : firstL ((b, m) :: r) ((l.take i).map (·.2)).sum i = some i := if_pos hb
      rw [e]
      refine ⟨fun z => (by cases z), fun j z => ?_⟩
      cases z
      exact ⟨g, hl, fun x e2 => .inl (by rw [hx] at e2; cases e2; exact hb)⟩
    · have hb' : b = true := by simpa using hb
      by_cases hm : 40 < ((l.take i).map (·.2)).sum + m
      · have e : firstL ((b, m) :: r) ((l.take i).map (·.2)).sum i = some i := by
          show (if b = false then some i else if 40 < _ + m then some i else _) = _
          rw [if_neg hb, if_pos hm]
        rw [e]
        refine ⟨fun z => (by cases z), fun j z => ?_⟩
        cases z
        exact ⟨g, hl, fun x e2 => .inr fun z => by have := (gs.mp z).2; omega⟩
      · have e : firstL ((b, m) :: r) ((l.take i).map (·.2)).sum i = firstL r ((l.take (i + 1)).map (·.2)).sum (i + 1) := by
          show (if b = false then some i else if 40 < _ + m then some i else firstL r (_ + m) (i + 1)) = _
          rw [if_neg hb, if_neg hm, es]
        rw [e]
        exact ih hd2 (by omega) (gs.mpr ⟨hb', by omega⟩)
end K01

set_option maxHeartbeats 4000000
namespace K01
open PySem PySem.Spec PyProof.Rows L2 Hd Evl
theorem fine_ints (l : List Nat) : ∀ x ∈ l.map intP, FineD x := fun x hx => by
  obtain ⟨n, _, rfl⟩ := List.mem_map.mp hx
  exact ⟨by simp [intP, PyData.canLay0], by simp [intP, PyData.depth]⟩
theorem dp_nats {K : PySem.W.Frag} (H : Hp) : ∀ l : List Nat, DpAll K H (l.map iV) (l.map intP)
  | [] => .nil
  | x :: r => .cons (.int _) (dp_nats H r)
section
variable {CX : CXT} {P : Program} {w : World} {K : PySem.W.Frag} {mg : Str → Option Value} {base : Heap}
structure WrSP (K : PySem.W.Frag) (vs : List V) (H : Hp) (Q : VK) : Prop where
  go : ∃ (r hs : Addr) (n k d p c u : Nat) (v : V) (e : PyData), vs = [.ref hs, v, iV u] ∧ HouseAt H hs n k d p c ∧ Dv r H v e ∧ FineD e ∧ (∃ ys, H r = some (.lst ys)) ∧ ∀ H', Ex H H' → Q (wV (wrongS (u + 1) p e)) H'
def spWrS (K : PySem.W.Frag) : Sp := fun vs H Q _ => WrSP K vs H Q
theorem ok_wrS {f fM : Addr} {fd fdM : FuncData} (F : FnP K "_law_wrong_story" s__law_wrong_story f fd) (B : Blt mg) (TM : Fn P w K mg base CX0 1 "_law_is_moment" ["house", "value", "deepest"] (spIsMom K) fM fdM) : FnOk P w K mg base CX 2 f fd ["house", "value", "deepest"] (spWrS K) := by
  refine F.ok (CX := CX) sc__law_wrong_story (fun vs H Q E h => ?_) (fun cdv A outer s H vs Q E hr h => ?_)
  · obtain ⟨r, hs, n, k, d, p, c, u, v, e, rfl, _⟩ := h
    rfl
  · obtain ⟨r, hs, n, k, d, p, c, u, v, e, rfl, hh, dv, fine, nr0, q⟩ := h
    have un : (A.deeper (envOfC "_law_wrong_story" (defScope s__law_wrong_story) s.heap.objs.size f cdv)).units + 64 < cLine := by have := hr.un; omega
    refine ⟨_, (pss_cons (ps_if (PW.pt (pw_or (pt_not (pt_val (pe_callB call_isS (by rfl) B.isinstance (by decide +kernel) (pa_cons (pv 1) (pa_cons (pe_ty "tuple" (by rfl) B.tuple (by decide +kernel)) pa_nil))))) (pw_or1 (pt_cmpR op_gt (pe_callB call_len_seq (by rfl) B.len (by decide +kernel) (pa_cons (pv 1) pa_nil)) pe_int (nomark _))))) (pss_one (ps_ret pe_str)) pss_nil)
    (pss_cons (ps_setLc (i := 3) (own := [("k", 4)]) (g := gName 4) (by rfl) sc__law_wrong_story.nd rfl rfl (sw_true rfl rfl (by rfl) (by decide +kernel)) (pi_range1 (by rfl) B.range (pa_cons (pe_callB call_len_seq (by rfl) B.len (by decide +kernel) (pa_cons (pv 1) pa_nil)) pa_nil)) (blkOk_by (own := [("k", 4)]) (N := n__law_wrong_story) (sc := defScope s__law_wrong_story) (by decide +kernel)) (fun _ _ _ _ _ => pg_name (i := 4) sc__law_wrong_story.nd rfl (Or.inl rfl)) (fun _ _ _ _ _ => pts_one (pt_not (pt_val (pe_call TM.G hr (by rfl) TM.m TM.k TM.b .nil pass0 (pa_cons (pv 0) (pa_cons (pe_ix (ix_tup : IxR _ (rIxT K)) (pv 1) (pv 4) (fun _ _ => rfl)) (pa_cons (pv 2) pa_nil))))))) (fun _ _ _ _ _ => (pv 4)))
    (pss_one (ps_ret (pe_ifExp (pt_cmpR (op_neD un) (pv 3) (pe_lst pa_nil) (nomark _)) (pe_ix ix_list (pv 3) pe_int (fun _ _ => rfl)) pe_non))))), ?_⟩
    have qv : ∀ {o : Option (Option Nat)}, wrongS (u + 1) p e = o → ∀ G, Ex H G → Q (wV o) G := fun z G eG => by have := q G eG; rw [z] at this; exact this
    obtain ⟨sv, kv, ev⟩ := dv_kind (K := K) dv
    refine ⟨v, rfl, v, sv, "tuple", _, rfl, kv.ty, kv.isT, _, rfl, ?_⟩
    rw [ev]
    cases dv with
    | non => exact iteT (iteT (qv (o := some none) rfl _ (Ex.refl _)))
    | bl b => exact iteT (iteT (qv (o := some none) rfl _ (Ex.refl _)))
    | int i => exact iteT (iteT (qv (o := some none) rfl _ (Ex.refl _)))
    | str x => exact iteT (iteT (qv (o := some none) rfl _ (Ex.refl _)))
    | lst n h _ => exact iteT (iteT (qv (o := some none) rfl _ (Ex.refl _)))
    | @tup t xs ds ht all =>
      have len := all.len
      refine iteF ⟨.ref t, rfl, t, xs, rfl, .inr (SqT.of ht), _, _, rfl, rfl, _, rfl, ?_⟩
      by_cases h40 : ds.length ≤ 40
      · rw [decide_eq_false (show ¬ (40 : Int) < (xs.length : Int) by omega)]
        obtain ⟨bs, hbs⟩ : ∃ bs, bs = ds.map (momD (u + 1) p) := ⟨_, rfl⟩
        have es : storyD (u + 1) p (.tuple ds) = some bs := by rw [hbs]; exact if_pos h40
        have bl : bs.length = ds.length := by rw [hbs, List.length_map]
        refine iteF ⟨.ref t, rfl, t, xs, rfl, .inr (SqT.of ht), (xs.length : Int), rfl, by omega, by omega, fun D nD => ?_⟩
        refine lc_range (lo := 0) (n := xs.length) (fun i G => G D = some (.lst ((badIx bs i).map iV)) ∧ Kq D H G) ⟨upd_same, Kq.row⟩ (fun i G hi w => ?_) (fun G w => ?_)
        · obtain ⟨gD, kG⟩ := w
          have eG := kG.ofNew nD
          obtain ⟨x, hx⟩ : ∃ x, xs[i]? = some x := ⟨xs[i], List.getElem?_eq_getElem hi⟩
          obtain ⟨dx, hdx, dvx0⟩ := all.at_ hx
          have dvx : Dv r G x dx := Hd.Dv.kr (Kr.ex eG) (lst_nt nr0) dx x dvx0
          have hb : bs[i]? = some (momD (u + 1) p dx) := by rw [hbs, List.getElem?_map, hdx] <;> rfl
          have zi : (0 : Int) + (i : Int) = (i : Int) := by omega
          rw [zi]
          refine ⟨rfl, .ref hs, rfl, .ref t, rfl, iV i, rfl, t, xs, _, x, rfl, rfl, SqT.of (eG _ _ ht), atI_nat hx, iV u, rfl, r, hs, n, k, d, p, c, u, x, dx, rfl, hh.ex eG, dvx, fine.tup dx (List.mem_of_getElem? hdx), nr0.elim fun ys z => ⟨ys, eG _ _ z⟩, fun G' e' => ⟨_, rfl, ?_⟩⟩
          have gD' := e' _ _ gD
          cases hm : momD (u + 1) p dx with
          | true =>
            rw [hm] at hb
            refine iteF ⟨?_, kG.trans (Kq.ex e')⟩
            rw [badIx_snoc hb]
            simpa using gD'
          | false =>
            rw [hm] at hb
            refine iteT ⟨iV i, rfl, _, gD', ?_, ?_, (kG.trans (Kq.ex e')).trans Kq.row⟩
            · rw [List.length_map]
              refine Nat.lt_of_le_of_lt (List.length_filter_le _ _) ?_
              rw [List.length_range]
              exact Nat.lt_of_lt_of_le hi (Nat.le_trans (show xs.length ≤ 40 by omega) (by decide))
            · rw [upd_same, badIx_snoc hb, List.map_append] <;> rfl
        · obtain ⟨gD, kG⟩ := w
          have eG := kG.ofNew nD
          rw [show xs.length = bs.length by omega] at gD
          refine ⟨.ref D, rfl, Nat.zero_le _, fun l nl => ?_⟩
          have el := Ex.new (o := HO.lst []) nl
          have gl := el _ _ gD
          refine ⟨.list ((badIx bs bs.length).map intP), .list [], .lst (SqL.of gl) (dp_nats _ _), .lst (SqL.of upd_same) .nil, FineD.shapedL (fine_ints _), rfl, _, rfl, ?_⟩
          cases hb : badIx bs bs.length with
          | nil =>
            refine iteF (qv (o := none) ?_ _ (eG.trans el))
            unfold wrongS
            rw [es]
            show (match badIx bs bs.length with | [] => none | i :: _ => some (some i)) = none
            rw [hb]
          | cons i rest =>
            rw [hb] at gl
            refine iteT ⟨.ref D, rfl, D, _, _, iV i, rfl, rfl, SqL.of gl, atI_nat (j := 0) rfl, qv (o := some (some i)) ?_ _ (eG.trans el)⟩
            unfold wrongS
            rw [es]
            show (match badIx bs bs.length with | [] => none | i :: _ => some (some i)) = some (some i)
            rw [hb]
      · rw [decide_eq_true (show (40 : Int) < (xs.length : Int) by omega)]
        refine iteT (qv (o := some none) ?_ _ (Ex.refl _))
        unfold wrongS
        rw [show storyD (u + 1) p (.tuple ds) = none from if_neg h40]
end
end K01

set_option maxHeartbeats 4000000
namespace K01
open PySem PySem.Spec PyProof.Rows L2 Hd Evl
theorem GoodL.le {l : List (Bool × Nat)} {i j : Nat} (g : GoodL l j) (h : i ≤ j) : GoodL l i := by
  have e : l.take i = (l.take j).take i := by rw [List.take_take, Nat.min_eq_left h]
  refine ⟨List.all_eq_true.mpr fun x hx => ?_, ?_⟩
  · rw [e] at hx
    exact List.all_eq_true.mp g.1 x (List.mem_of_mem_take hx)
  · rw [e, List.map_take]
    exact Nat.le_trans (sum_take _ _) g.2
theorem GoodL.fst {l : List (Bool × Nat)} {i j : Nat} (g : GoodL l j) (h : i < j) {x : Bool × Nat} (hx : l[i]? = some x) : x.1 = true := by
  refine List.all_eq_true.mp g.1 x ?_
  exact List.mem_of_getElem? (i := i) (by rw [List.getElem?_take_of_lt h]; exact hx)

/-- i is the first wrong place of l -/
def BadAt (l : List (Bool × Nat)) (i : Nat) : Prop := GoodL l i ∧ i < l.length ∧ ∀ x, l[i]? = some x → x.1 = false ∨ ¬ GoodL l (i + 1)
theorem BadAt.not {l : List (Bool × Nat)} {i j : Nat} (h : BadAt l i) (g : GoodL l j) (hj : i < j) : False := by
  obtain ⟨_, hl, hb⟩ := h
  obtain ⟨x, hx⟩ : ∃ x, l[i]? = some x := ⟨l[i], List.getElem?_eq_getElem hl⟩
  rcases hb x hx with z | z
  · rw [g.fst hj hx] at z
    cases z
  · exact z (g.le hj)
theorem BadAt.uniq {l : List (Bool × Nat)} {i j : Nat} (h : BadAt l i) (g : BadAt l j) : i = j := by
  rcases Nat.lt_trichotomy i j with z | z | z
  · exact (h.not g.1 z).elim
  · exact z
  · exact (g.not h.1 z).elim
theorem first_cases (l : List (Bool × Nat)) : (firstL l 0 0 = none ∧ GoodL l l.length) ∨ ∃ j, firstL l 0 0 = some j ∧ BadAt l j := by
  have h := firstL_spec (l := l) (r := l) (i := 0) rfl (Nat.zero_le _) ⟨rfl, Nat.zero_le _⟩
  have e : ((l.take 0).map (·.2)).sum = 0 := rfl
  rw [e] at h
  cases z : firstL l 0 0 with
  | none => exact .inl ⟨rfl, h.1 z⟩
  | some j => exact .inr ⟨j, rfl, h.2 j z⟩
theorem first_at {l : List (Bool × Nat)} {i : Nat} (b : BadAt l i) : firstL l 0 0 = some i := by
  rcases first_cases l with ⟨_, g⟩ | ⟨j, e, b2⟩
  · exact (b.not g b.2.1).elim
  · rw [e, b.uniq b2]
theorem first_none {l : List (Bool × Nat)} (g : GoodL l l.length) : firstL l 0 0 = none := by
  rcases first_cases l with ⟨e, _⟩ | ⟨j, e, b⟩
  · exact e
  · exact (b.not g b.2.1).elim
theorem two_of {r : Addr} {H : Hp} {zs : List V} {es : List PyData} (h : DvAll r H zs es) (l : es.length = 2) : ∃ z1 z2 d1 d2, zs = [z1, z2] ∧ es = [d1, d2] ∧ Dv r H z1 d1 ∧ Dv r H z2 d2 := by
  match es, l with
  | [d1, d2], _ =>
    cases h with
    | cons q1 h =>
      cases h with
      | cons q2 h =>
        cases h
        exact ⟨_, _, _, _, rfl, rfl, q1, q2⟩
theorem dv_isI2 {K : PySem.W.Frag} {r : Addr} {H : Hp} {v : V} {e : PyData} (h : Dv r H v e) : ∃ s, KindV K H v s ∧ isK s "int" = (isIntD e || isK s "bool") ∧ (isIntD e = true → isK s "bool" = false) := by
  cases h with
  | non => exact ⟨_, .non, (by decide : isK "NoneType" "int" = (false || isK "NoneType" "bool")), fun z => by cases z⟩
  | bl b => exact ⟨_, .bl b, (by decide : isK "bool" "int" = (false || isK "bool" "bool")), fun z => by cases z⟩
  | int i => exact ⟨_, .int i, (by decide : isK "int" "int" = (true || isK "int" "bool")), fun _ => (by decide : isK "int" "bool" = false)⟩
  | str x => exact ⟨_, .str x, (by decide : isK "str" "int" = (false || isK "str" "bool")), fun z => by cases z⟩
  | lst n h _ => exact ⟨_, .lst h, (by decide : isK "list" "int" = (false || isK "list" "bool")), fun z => by cases z⟩
  | tup h _ => exact ⟨_, .tup h, (by decide : isK "tuple" "int" = (false || isK "tuple" "bool")), fun z => by cases z⟩
section
variable {CX : CXT} {P : Program} {w : World} {K : PySem.W.Frag} {mg : Str → Option Value} {base : Heap}
structure WrLP (K : PySem.W.Frag) (vs : List V) (H : Hp) (Q : VK) : Prop where
  go : ∃ (r hs : Addr) (n k d p c : Nat) (v : V) (e : PyData), vs = [.ref hs, v] ∧ HouseAt H hs n k d p c ∧ Dv r H v e ∧ FineD e ∧ (∃ ys, H r = some (.lst ys)) ∧ ∀ H', Ex H H' → Q (wV (wrongL d p e)) H'
def spWrL (K : PySem.W.Frag) : Sp := fun vs H Q _ => WrLP K vs H Q
theorem ok_wrL {f fM : Addr} {fd fdM : FuncData} (F : FnP K "_law_wrong_life" s__law_wrong_life f fd) (B : Blt mg) (TS : Fn P w K mg base CX0 2 "_law_wrong_story" ["house", "value", "deepest"] (spWrS K) fM fdM) : FnOk P w K mg base CX 3 f fd ["house", "value"] (spWrL K) := by
  refine F.ok (CX := CX) sc__law_wrong_life (fun vs H Q E h => ?_) (fun cdv A outer s H vs Q E hr h => ?_)
  · obtain ⟨r, hs, n, k, d, p, c, v, e, rfl, _⟩ := h
    rfl
  · obtain ⟨r, hs, n, k, d, p, c, v, e, rfl, hh, dv, fine, nr0, q⟩ := h
    refine ⟨_, (pss_cons (ps_if (PW.pt (pw_or (pt_not (pt_val (pe_callB call_isS (by rfl) B.isinstance (by decide +kernel) (pa_cons (pv 1) (pa_cons (pe_ty "tuple" (by rfl) B.tuple (by decide +kernel)) pa_nil))))) (pw_or1 (pt_not (pt_chain op_le op_le pe_int (pe_callB call_len_seq (by rfl) B.len (by decide +kernel) (pa_cons (pv 1) pa_nil)) pe_int))))) (pss_one (ps_ret pe_str)) pss_nil)
    (pss_cons (ps_set (i := 2) sc__law_wrong_life.nd rfl (Or.inl rfl) pe_int)
    (pss_cons (ps_for (passes_of rfl) rfl (pi_range1 (by rfl) B.range (pa_cons (pe_callB call_len_seq (by rfl) B.len (by decide +kernel) (pa_cons (pv 1) pa_nil)) pa_nil)) (pg_name (i := 3) sc__law_wrong_life.nd rfl (Or.inl rfl)) (pss_cons (ps_set (i := 4) sc__law_wrong_life.nd rfl (Or.inl rfl) (pe_ix ix_tup (pv 1) (pv 3) (fun _ _ => rfl)))
    (pss_cons (ps_if (PW.pt (pw_or (pt_not (pt_val (pe_callB call_isS (by rfl) B.isinstance (by decide +kernel) (pa_cons (pv 4) (pa_cons (pe_ty "tuple" (by rfl) B.tuple (by decide +kernel)) pa_nil))))) (pw_or (pt_cmpR op_ne (pe_callB call_len_seq (by rfl) B.len (by decide +kernel) (pa_cons (pv 4) pa_nil)) pe_int (nomark _)) (pw_or (pt_not (pt_val (pe_callB call_isS (by rfl) B.isinstance (by decide +kernel) (pa_cons (pe_ix ix_tup (pv 4) pe_int (fun _ _ => rfl)) (pa_cons (pe_ty "int" (by rfl) B.int (by decide +kernel)) pa_nil))))) (pw_or (pt_val (pe_callB call_isS (by rfl) B.isinstance (by decide +kernel) (pa_cons (pe_ix ix_tup (pv 4) pe_int (fun _ _ => rfl)) (pa_cons (pe_ty "bool" (by rfl) B.bool (by decide +kernel)) pa_nil)))) (pw_or1 (pt_not (pt_chain op_le op_lt pe_int (pe_ix ix_tup (pv 4) pe_int (fun _ _ => rfl)) (pe_ix ix_tup (pv 0) pe_int (fun _ _ => rfl)))))))))) (pss_one (ps_ret (pv 3))) pss_nil)
    (pss_cons (ps_if (pt_cmpR op_notN (pe_call TS.G hr (by rfl) TS.m TS.k TS.b .nil pass0 (pa_cons (pv 0) (pa_cons (pe_ix ix_tup (pv 4) pe_int (fun _ _ => rfl)) (pa_cons (pe_ix ix_tup (pv 4) pe_int (fun _ _ => rfl)) pa_nil)))) pe_non (nomark _)) (pss_one (ps_ret (pv 3))) pss_nil)
    (pss_cons (ps_set (i := 2) sc__law_wrong_life.nd rfl (Or.inl rfl) (pe_op op_add (pv 2) (pe_callB call_len_seq (by rfl) B.len (by decide +kernel) (pa_cons (pe_ix ix_tup (pv 4) pe_int (fun _ _ => rfl)) pa_nil))))
    (pss_one (ps_if (pt_cmpR op_gt (pv 2) pe_int (nomark _)) (pss_one (ps_ret (pv 3))) pss_nil)))))))
    (pss_one (ps_ret pe_non))))), ?_⟩
    have qv : ∀ {o : Option (Option Nat)}, wrongL d p e = o → ∀ G, Ex H G → Q (wV o) G := fun z G eG => by have := q G eG; rw [z] at this; exact this
    obtain ⟨sv, kv, ev⟩ := dv_kind (K := K) dv
    refine ⟨v, rfl, v, sv, "tuple", _, rfl, kv.ty, kv.isT, _, rfl, ?_⟩
    rw [ev]
    cases dv with
    | non => exact iteT (iteT (qv (o := some none) rfl _ (Ex.refl _)))
    | bl b => exact iteT (iteT (qv (o := some none) rfl _ (Ex.refl _)))
    | int i => exact iteT (iteT (qv (o := some none) rfl _ (Ex.refl _)))
    | str x => exact iteT (iteT (qv (o := some none) rfl _ (Ex.refl _)))
    | lst n h _ => exact iteT (iteT (qv (o := some none) rfl _ (Ex.refl _)))
    | @tup t xs ds ht all =>
      have len := all.len
      refine iteF ⟨.ref t, rfl, t, xs, rfl, .inr (SqT.of ht), _, _, rfl, rfl, _, rfl, ?_⟩
      have out : ¬ (1 ≤ ds.length ∧ ds.length ≤ 6) → wrongL d p (.tuple ds) = some none := fun z => by
        unfold wrongL
        rw [show lifeD d p (.tuple ds) = none from if_neg z]
      by_cases c1 : 1 ≤ ds.length
      · rw [decide_eq_true (show (1 : Int) ≤ (xs.length : Int) by omega)]
        refine iteT ⟨_, _, rfl, rfl, _, rfl, ?_⟩
        by_cases c6 : ds.length ≤ 6
        · rw [decide_eq_true (show (xs.length : Int) ≤ 6 by omega)]
          obtain ⟨l, hl⟩ : ∃ l, l = ds.map fun s => (sessD d p s, sessLen s) := ⟨_, rfl⟩
          have el : wrongL d p (.tuple ds) = (firstL l 0 0).map some := by
            unfold wrongL
            rw [show lifeD d p (.tuple ds) = some l from by rw [hl]; exact if_pos ⟨c1, c6⟩]
          have ll : l.length = ds.length := by rw [hl, List.length_map]
          refine iteF ⟨.ref t, rfl, t, xs, rfl, .inr (SqT.of ht), (xs.length : Int), rfl, by omega, by omega, ?_⟩
          refine for_range (lo := 0) (n := xs.length) (fun i σ G => ∃ y3 y4, σ = [some (.ref hs), some (.ref t), some (iV ((l.take i).map (·.2)).sum), y3, y4] ∧ Ex H G ∧ GoodL l i) ⟨none, none, rfl, Ex.refl _, rfl, Nat.zero_le _⟩ (fun i σ G hi w => ?_) (fun σ G w => ?_)
          · obtain ⟨y3, y4, rfl, eG, gd⟩ := w
            obtain ⟨x, hx⟩ : ∃ x, xs[i]? = some x := ⟨xs[i], List.getElem?_eq_getElem hi⟩
            obtain ⟨dx, hdx, dvx0⟩ := all.at_ hx
            have dvx : Dv r G x dx := Hd.Dv.kr (Kr.ex eG) (lst_nt nr0) dx x dvx0
            have fx := fine.tup dx (List.mem_of_getElem? hdx)
            have hlx : l[i]? = some (sessD d p dx, sessLen dx) := by rw [hl, List.getElem?_map, hdx] <;> rfl
            have il : i < l.length := by omega
            have nrG : ∃ ys, G r = some (.lst ys) := nr0.elim fun ys z => ⟨ys, eG _ _ z⟩
            have zi : (0 : Int) + (i : Int) = (i : Int) := by omega
            rw [zi]
            have stop : (sessD d p dx = false ∨ ¬ GoodL l (i + 1)) → ∀ G', Ex G G' → Q (iV i) G' := fun z G' e' => qv (o := some (some i)) (by rw [el, first_at ⟨gd, il, fun y ey => by rw [hlx] at ey; cases ey; exact z⟩] <;> rfl) _ (eG.trans e')
            refine ⟨.ref t, rfl, iV i, rfl, t, xs, _, x, rfl, rfl, SqT.of (eG _ _ ht), atI_nat hx, ?_⟩
            obtain ⟨sx, kx, ex⟩ := dv_kind (K := K) dvx
            refine ⟨x, rfl, x, sx, "tuple", _, rfl, kx.ty, kx.isT, _, rfl, ?_⟩
            rw [ex]
            cases dvx with
            | non => exact iteT (iteT ⟨iV i, rfl, stop (.inl rfl) _ (Ex.refl _)⟩)
            | bl b => exact iteT (iteT ⟨iV i, rfl, stop (.inl rfl) _ (Ex.refl _)⟩)
            | int j => exact iteT (iteT ⟨iV i, rfl, stop (.inl rfl) _ (Ex.refl _)⟩)
            | str x => exact iteT (iteT ⟨iV i, rfl, stop (.inl rfl) _ (Ex.refl _)⟩)
            | lst n h _ => exact iteT (iteT ⟨iV i, rfl, stop (.inl rfl) _ (Ex.refl _)⟩)
            | @tup tx zs es hxt a2 =>
              have l2 := a2.len
              refine iteF ⟨.ref tx, rfl, tx, zs, rfl, .inr (SqT.of hxt), rfl, _, rfl, ?_⟩
              by_cases h2 : es.length = 2
              · obtain ⟨z1, z2, d1, d2, rfl, rfl, q1, q2⟩ := two_of a2 h2
                obtain ⟨s1, k1, e1, e1b⟩ := dv_isI2 (K := K) q1
                refine iteF ⟨.ref tx, rfl, tx, _, _, z1, rfl, rfl, SqT.of hxt, atI_nat (j := 0) rfl, z1, s1, "int", _, rfl, k1.ty, k1.isI, _, rfl, ?_⟩
                rw [e1]
                cases i1 : isIntD d1 with
                | false =>
                  have sf : sessD d p (.tuple [d1, d2]) = false := by
                    show ((numD d1 0 ((d : Int) - 1) && okS (storyD d p d2)) && storyLowD (intD d1) d2) = false
                    have : numD d1 0 ((d : Int) - 1) = false := by cases d1 <;> first | rfl | cases i1
                    rw [this] <;> rfl
                  cases b1 : isK s1 "bool" with
                  | false => exact iteT (iteT ⟨iV i, rfl, stop (.inl sf) _ (Ex.refl _)⟩)
                  | true =>
                    refine iteF ⟨.ref tx, rfl, tx, _, _, z1, rfl, rfl, SqT.of hxt, atI_nat (j := 0) rfl, z1, s1, "bool", _, rfl, k1.ty, k1.isB, _, rfl, ?_⟩
                    rw [b1]
                    exact iteT (iteT ⟨iV i, rfl, stop (.inl sf) _ (Ex.refl _)⟩)
                | true =>
                  have b1 := e1b i1
                  obtain ⟨m, rfl, rfl⟩ := dv_int q1 i1
                  have hh' := hh.ex eG
                  refine iteF ⟨.ref tx, rfl, tx, _, _, .int m, rfl, rfl, SqT.of hxt, atI_nat (j := 0) rfl, .int m, s1, "bool", _, rfl, k1.ty, k1.isB, _, rfl, ?_⟩
                  rw [b1]
                  have sv : sessD d p (.tuple [.int m, d2]) = (((decide (0 ≤ m) && decide (m ≤ (d : Int) - 1)) && okS (storyD d p d2)) && storyLowD m d2) := rfl
                  refine iteF ⟨.ref tx, rfl, tx, _, _, .int m, rfl, rfl, SqT.of hxt, atI_nat (j := 0) rfl, _, _, rfl, rfl, _, rfl, ite2 (fun c2 => ⟨.ref hs, rfl, hs, _, _, .int d, rfl, rfl, SqT.of hh'.at_, atI_nat (j := 2) rfl, _, _, rfl, rfl, _, rfl, ?_⟩) (fun c2 => ⟨_, rfl, iteT ⟨iV i, rfl, stop (.inl (by rw [sv, Bool.eq_false_iff.mpr c2] <;> rfl)) _ (Ex.refl _)⟩⟩)⟩
                  by_cases c3 : m < (d : Int)
                  · rw [decide_eq_true c3]
                    have m0 := of_decide_eq_true c2
                    obtain ⟨u, rfl⟩ : ∃ u : Nat, m = (u : Int) := ⟨m.toNat, by omega⟩
                    have ud : u < d := by omega
                    have sv2 : sessD d p (.tuple [.int (u : Int), d2]) = okS (storyD (u + 1) p d2) := by
                      rw [sv, story_eq ud, decide_eq_true (show (0 : Int) ≤ (u : Int) by omega), decide_eq_true (show (u : Int) ≤ (d : Int) - 1 by omega)] <;> rfl
                    refine iteF ⟨.ref hs, rfl, .ref tx, rfl, tx, _, _, z2, rfl, rfl, SqT.of hxt, atI_nat (j := 1) rfl, .ref tx, rfl, tx, _, _, iV u, rfl, rfl, SqT.of hxt, atI_nat (j := 0) rfl, r, hs, n, k, d, p, c, u, z2, d2, rfl, hh', q2, fx.tup d2 (by simp), nrG, fun G' e' => ?_⟩
                    cases ho : wrongS (u + 1) p d2 with
                    | some oo =>
                      have sf : sessD d p (.tuple [.int (u : Int), d2]) = false := by
                        rw [sv2]
                        cases z : okS (storyD (u + 1) p d2) with
                        | false => rfl
                        | true =>
                          rw [wrongS_none.mpr z] at ho
                          cases ho
                      refine ⟨rfl, _, rfl, ?_⟩
                      cases oo with
                      | none => exact iteT ⟨iV i, rfl, stop (.inl sf) _ e'⟩
                      | some j => exact iteT ⟨iV i, rfl, stop (.inl sf) _ e'⟩
                    | none =>
                      have okk := wrongS_none.mp ho
                      have st : sessD d p (.tuple [.int (u : Int), d2]) = true := by rw [sv2, okk]
                      obtain ⟨ms, rfl, ml, _⟩ := story_tup okk
                      refine ⟨rfl, _, rfl, iteF ?_⟩
                      cases q2 with
                      | @tup us usl _ hus aus =>
                        have ul := aus.len
                        rw [st] at hlx
                        have hlx' : l[i]? = some (true, ms.length) := hlx
                        have gs := good_snoc hlx' gd
                        have es : ((l.take (i + 1)).map (·.2)).sum = ((l.take i).map (·.2)).sum + ms.length := by
                          rw [take_snoc hlx', List.map_append, List.sum_append] <;> simp
                        refine ⟨iV ((l.take i).map (·.2)).sum, rfl, .ref tx, rfl, tx, _, _, .ref us, rfl, rfl, SqT.of (e' _ _ hxt), atI_nat (j := 1) rfl, us, usl, rfl, .inr (SqT.of (e' _ _ hus)), _, _, rfl, rfl, ?_⟩
                        refine ⟨_, rfl, _, _, rfl, rfl, _, rfl, ite2 (fun c4 => ?_) (fun c4 => ?_)⟩
                        · have c4' := of_decide_eq_true c4
                          exact ⟨iV i, rfl, stop (.inr fun z => by have := (gs.mp z).2; omega) _ e'⟩
                        · have c4' : ¬ (40 : Int) < ((((l.take i).map (·.2)).sum : Nat) : Int) + (usl.length : Int) := fun z => c4 (decide_eq_true z)
                          refine ⟨some (iV i), some (.ref tx), ?_, eG.trans e', gs.mpr ⟨rfl, by omega⟩⟩
                          rw [es]
                          show [some (V.ref hs), some (.ref t), some (.int (((((l.take i).map (·.2)).sum : Nat) : Int) + (usl.length : Int))), some (iV i), some (.ref tx)] = _
                          rw [show ((((l.take i).map (·.2)).sum : Nat) : Int) + (usl.length : Int) = ((((l.take i).map (·.2)).sum + ms.length : Nat) : Int) by omega]
                  · rw [decide_eq_false c3]
                    exact iteT ⟨iV i, rfl, stop (.inl (by rw [sv, decide_eq_false (show ¬ m ≤ (d : Int) - 1 by omega), Bool.and_false] <;> rfl)) _ (Ex.refl _)⟩
              · have e3 : (!decide (V.int (zs.length : Int) = V.int 2)) = true := by
                  rw [decide_eq_false (fun z => h2 (by injection z with z; omega))] <;> rfl
                rw [e3]
                refine iteT (iteT ⟨iV i, rfl, stop (.inl ?_) _ (Ex.refl _)⟩)
                match es, h2 with
                | [], _ => rfl
                | [_], _ => rfl
                | [_, _], h => exact absurd rfl h
                | _ :: _ :: _ :: _, _ => rfl
          · obtain ⟨y3, y4, rfl, eG, gd⟩ := w
            rw [show xs.length = l.length by omega] at gd
            exact qv (o := none) (by rw [el, first_none gd] <;> rfl) _ eG
        · rw [decide_eq_false (show ¬ (xs.length : Int) ≤ 6 by omega)]
          exact iteT (qv (o := some none) (out fun z => c6 z.2) _ (Ex.refl _))
      · rw [decide_eq_false (show ¬ (1 : Int) ≤ (xs.length : Int) by omega)]
        exact iteF ⟨_, rfl, iteT (qv (o := some none) (out fun z => c1 z.1) _ (Ex.refl _))⟩
end
end K01

set_option maxHeartbeats 4000000
namespace K01
open PySem PySem.Spec PyProof.Rows L2 Hd Evl
/-- the error classes -/
structure Cs where
  B : Addr
  S : Addr
  L : Addr
  C : Addr
  D : Addr
  P : Addr
  N : Addr
  Z : Addr
/-- the program's own tables -/
structure Tb where
  m : Addr
  s : Addr
  n : Addr
  u : Addr
  a : Addr
theorem pss_never {X : Cx} {l : List Stmt} : PSs X l (fun _ _ _ => False) := ⟨fun _ _ _ _ _ _ h => h.elim⟩
section
variable {K : PySem.W.Frag} {H : Hp} {vs : List V} {Q Q' : VK} {E : XK} {cs : Cs} {tb : Tb}
theorem mono_house {C : Addr} (h : spCheck K C vs H Q E) (f : ∀ v H1, Q v H1 → Q' v H1) : spCheck K C vs H Q' E := by
  obtain ⟨v, o, e, w, q1, q2⟩ := h
  exact ⟨v, o, e, w, fun z => f _ _ (q1 z), q2⟩
theorem mono_life {C Pm Ps : Addr} (h : spLife K C Pm Ps vs H Q E) (f : ∀ v H1, Q v H1 → Q' v H1) : spLife K C Pm Ps vs H Q' E := by
  obtain ⟨a, n, k, d, p, c, v, o, e, h1, h2, h3, h4, q1, q2⟩ := h
  exact ⟨a, n, k, d, p, c, v, o, e, h1, h2, h3, h4, q1, fun l el => ⟨fun g H2 k2 => f _ _ ((q2 l el).1 g H2 k2), (q2 l el).2⟩⟩
theorem mono_story {C Pm : Addr} (h : spStory K C Pm vs H Q E) (f : ∀ v H1, Q v H1 → Q' v H1) : spStory K C Pm vs H Q' E := by
  obtain ⟨a, n, k, d, p, c, v, o, e, h1, h2, h3, q1, q2⟩ := h
  exact ⟨a, n, k, d, p, c, v, o, e, h1, h2, h3, q1, fun l el => ⟨fun g H2 k2 t2 => f _ _ ((q2 l el).1 g H2 k2 t2), (q2 l el).2⟩⟩
theorem mono_way {C : Addr} (h : spWay K C vs H Q E) (f : ∀ v H1, Q v H1 → Q' v H1) : spWay K C vs H Q' E := by
  obtain ⟨v, s, e, k, q1, q2⟩ := h
  exact ⟨v, s, e, k, fun z => f _ _ (q1 z), q2⟩
theorem mono_coins {C Pn : Addr} (h : spCoins K C Pn vs H Q E) (f : ∀ v H1, Q v H1 → Q' v H1) : spCoins K C Pn vs H Q' E := by
  obtain ⟨a, n, k, d, p, c, l, ss, ls, v, o, e, h1, h2, h3, h4, h5, h6, q1, q2⟩ := h
  exact ⟨a, n, k, d, p, c, l, ss, ls, v, o, e, h1, h2, h3, h4, h5, h6, q1, fun l el => ⟨fun g H2 k2 t2 => f _ _ ((q2 l el).1 g H2 k2 t2), (q2 l el).2⟩⟩
theorem mono_chk {top : Nat → Nat → Nat} {C : Addr} (h : spChk K top C vs H Q E) (f : ∀ v H1, Q v H1 → Q' v H1) : spChk K top C vs H Q' E := by
  obtain ⟨a, n, k, d, p, c, v, s, e, h1, h2, q1, q2⟩ := h
  exact ⟨a, n, k, d, p, c, v, s, e, h1, h2, fun z => f _ _ (q1 z), q2⟩
end
/-- the checks -/
structure Ch (P : Program) (w : World) (K : PySem.W.Frag) (mg : Str → Option Value) (base : Heap) (cs : Cs) (tb : Tb) : Type where
  fH : Addr
  dH : FuncData
  H : Fn P w K mg base (L2.CX P w) 3 "check_house" ["house"] (spCheck K cs.B) fH dH
  fL : Addr
  dL : FuncData
  L : Fn P w K mg base (L2.CX P w) 9 "check_life" ["house", "life"] (spLife K cs.L tb.m tb.s) fL dL
  fS : Addr
  dS : FuncData
  S : Fn P w K mg base (L2.CX P w) 6 "check_story" ["house", "story"] (spStory K cs.S tb.m) fS dS
  fW : Addr
  dW : FuncData
  W : Fn P w K mg base (L2.CX P w) 3 "check_way" ["way"] (spWay K cs.B) fW dW
  fC : Addr
  dC : FuncData
  C : Fn P w K mg base (L2.CX P w) 3 "check_coins" ["house", "life", "coins"] (spCoins K cs.C tb.n) fC dC
  fD : Addr
  dD : FuncData
  D : Fn P w K mg base (L2.CX P w) 3 "check_drawer" ["house", "drawer"] (spChk K (fun d _ => d) cs.D) fD dD
section
variable {P : Program} {w : World} {K : PySem.W.Frag} {mg : Str → Option Value} {base : Heap} {cs : Cs} {tb : Tb}
def sp_check_run (K : PySem.W.Frag) (cs : Cs) (tb : Tb) : Sp := fun vs H Q E => ∃ v0 v1 v2 v3, vs = [v0, v1, v2, v3] ∧ spCheck K cs.B [v0] H (fun _ H1 => spLife K cs.L tb.m tb.s [v0, v2] H1 (fun _ H2 => spWay K cs.B [v1] H2 (fun _ H3 => spCoins K cs.C tb.n [v0, v2, v3] H3 (fun _ H4 => Q .non H4) E) E) E) E
theorem ok_check_run {f : Addr} {fd : FuncData} (F : FnP K "check_run" s_check_run f fd) (c : Ch P w K mg base cs tb) : FnOk P w K mg base (L2.CX P w) 10 f fd ["house", "way", "life", "coins"] (sp_check_run K cs tb) := by
  refine F.ok (CX := L2.CX P w) sc_check_run (fun vs H Q E h => ?_) (fun cdv A outer s H vs Q E hr h => ?_)
  · obtain ⟨v0, v1, v2, v3, rfl, _⟩ := h
    rfl
  · obtain ⟨v0, v1, v2, v3, rfl, h⟩ := h
    refine ⟨_, (pss_cons (ps_expr (pe_call c.H.G (hr.mono (by decide)) (by rfl) c.H.m c.H.k c.H.b .nil (passX (E := E) rfl rfl rfl rfl) (pa_cons (pv 0) pa_nil))) (pss_cons (ps_expr (pe_call c.L.G (hr.mono (by decide)) (by rfl) c.L.m c.L.k c.L.b .nil (passX (E := E) rfl rfl rfl rfl) (pa_cons (pv 0) (pa_cons (pv 2) pa_nil)))) (pss_cons (ps_expr (pe_call c.W.G (hr.mono (by decide)) (by rfl) c.W.m c.W.k c.W.b .nil (passX (E := E) rfl rfl rfl rfl) (pa_cons (pv 1) pa_nil))) (pss_one (ps_expr (pe_call c.C.G (hr.mono (by decide)) (by rfl) c.C.m c.C.k c.C.b .nil (passX (E := E) rfl rfl rfl rfl) (pa_cons (pv 0) (pa_cons (pv 2) (pa_cons (pv 3) pa_nil))))))))), ?_⟩
    refine ⟨v0, rfl, ?_⟩
    dsimp only [tNil, tCall, List.append_nil]
    refine mono_house h (fun _ H1 h1 => ?_)
    refine ⟨v0, rfl, v2, rfl, ?_⟩
    dsimp only [tNil, tCall, List.append_nil]
    refine mono_life h1 (fun _ H2 h2 => ?_)
    refine ⟨v1, rfl, ?_⟩
    dsimp only [tNil, tCall, List.append_nil]
    refine mono_way h2 (fun _ H3 h3 => ?_)
    refine ⟨v0, rfl, v2, rfl, v3, rfl, ?_⟩
    dsimp only [tNil, tCall, List.append_nil]
    exact mono_coins h3 (fun _ _ z => z)
theorem mono_check_run {vs : List V} {H : Hp} {Q Q' : VK} {E : XK} (h : sp_check_run K cs tb vs H Q E) (f : ∀ v H1, Q v H1 → Q' v H1) : sp_check_run K cs tb vs H Q' E := by
  obtain ⟨v0, v1, v2, v3, e, h⟩ := h
  exact ⟨v0, v1, v2, v3, e, mono_house h (fun _ H1 h1 => mono_life h1 (fun _ H2 h2 => mono_way h2 (fun _ H3 h3 => mono_coins h3 (fun _ _ z => f _ _ z))))⟩
def sp_check_waits (K : PySem.W.Frag) (cs : Cs) (tb : Tb) : Sp := fun vs H Q E => ∃ v0 v1 v2 v3, vs = [v0, v1, v2, v3] ∧ spCheck K cs.B [v0] H (fun _ H1 => spStory K cs.S tb.m [v0, v2] H1 (fun _ H2 => spWay K cs.B [v1] H2 (fun _ H3 => spChk K (fun d _ => d) cs.D [v0, v3] H3 (fun _ _ => False) E) E) E) E
theorem ok_check_waits {f : Addr} {fd : FuncData} (F : FnP K "check_waits" s_check_waits f fd) (c : Ch P w K mg base cs tb) : FnOk P w K mg base (L2.CX P w) 10 f fd ["house", "way", "story", "drawer"] (sp_check_waits K cs tb) := by
  refine F.ok (CX := L2.CX P w) sc_check_waits (fun vs H Q E h => ?_) (fun cdv A outer s H vs Q E hr h => ?_)
  · obtain ⟨v0, v1, v2, v3, rfl, _⟩ := h
    rfl
  · obtain ⟨v0, v1, v2, v3, rfl, h⟩ := h
    refine ⟨_, (pss_cons (ps_expr (pe_call c.H.G (hr.mono (by decide)) (by rfl) c.H.m c.H.k c.H.b .nil (passX (E := E) rfl rfl rfl rfl) (pa_cons (pv 0) pa_nil))) (pss_cons (ps_expr (pe_call c.S.G (hr.mono (by decide)) (by rfl) c.S.m c.S.k c.S.b .nil (passX (E := E) rfl rfl rfl rfl) (pa_cons (pv 0) (pa_cons (pv 2) pa_nil)))) (pss_cons (ps_expr (pe_call c.W.G (hr.mono (by decide)) (by rfl) c.W.m c.W.k c.W.b .nil (passX (E := E) rfl rfl rfl rfl) (pa_cons (pv 1) pa_nil))) (pss_cons (ps_expr (pe_call c.D.G (hr.mono (by decide)) (by rfl) c.D.m c.D.k c.D.b .nil (passX (E := E) rfl rfl rfl rfl) (pa_cons (pv 0) (pa_cons (pv 3) pa_nil)))) pss_never)))), ?_⟩
    refine ⟨v0, rfl, ?_⟩
    dsimp only [tNil, tCall, List.append_nil]
    refine mono_house h (fun _ H1 h1 => ?_)
    refine ⟨v0, rfl, v2, rfl, ?_⟩
    dsimp only [tNil, tCall, List.append_nil]
    refine mono_story h1 (fun _ H2 h2 => ?_)
    refine ⟨v1, rfl, ?_⟩
    dsimp only [tNil, tCall, List.append_nil]
    refine mono_way h2 (fun _ H3 h3 => ?_)
    refine ⟨v0, rfl, v3, rfl, ?_⟩
    dsimp only [tNil, tCall, List.append_nil]
    exact mono_chk h3 (fun _ _ z => z)
theorem mono_check_waits {vs : List V} {H : Hp} {Q Q' : VK} {E : XK} (h : sp_check_waits K cs tb vs H Q E) (f : ∀ v H1, Q v H1 → Q' v H1) : sp_check_waits K cs tb vs H Q' E := by
  obtain ⟨v0, v1, v2, v3, e, h⟩ := h
  exact ⟨v0, v1, v2, v3, e, mono_house h (fun _ H1 h1 => mono_story h1 (fun _ H2 h2 => mono_way h2 (fun _ H3 h3 => mono_chk h3 (fun _ _ z => z))))⟩
end
/-- the checks, and those made of them -/
structure Ch2 (P : Program) (w : World) (K : PySem.W.Frag) (mg : Str → Option Value) (base : Heap) (cs : Cs) (tb : Tb) : Type extends Ch P w K mg base cs tb where
  fR : Addr
  dR : FuncData
  R : Fn P w K mg base (L2.CX P w) 10 "check_run" ["house", "way", "life", "coins"] (sp_check_run K cs tb) fR dR
  fA : Addr
  dA : FuncData
  A : Fn P w K mg base (L2.CX P w) 10 "check_waits" ["house", "way", "story", "drawer"] (sp_check_waits K cs tb) fA dA
end K01

set_option maxHeartbeats 4000000
namespace K01
open PySem PySem.Spec PyProof.Rows L2 Hd Evl
section
variable {CX : CXT} {P : Program} {w : World} {K : PySem.W.Frag} {mg : Str → Option Value} {base : Heap}
/-! ### power, coin_count -/
def spPower : Sp := fun vs H Q _ => ∃ b m : Nat, vs = [iV b, iV m] ∧ b < 2 ^ 60 ∧ m ≤ 1000 ∧ Q (iV (b ^ m)) H
theorem ok_power {f : Addr} {fd : FuncData} (F : FnP K "power" s_power f fd) (B : Blt mg) : FnOk P w K mg base CX 1 f fd ["base", "many"] spPower := by
  refine F.ok (CX := CX) sc_power (fun vs H Q E h => ?_) (fun cdv A outer s H vs Q E hr h => ?_)
  · obtain ⟨b, m, rfl, _⟩ := h
    rfl
  · obtain ⟨b, m, rfl, hb, hm, q⟩ := h
    refine ⟨_, (pss_cons (ps_set (i := 2) sc_power.nd rfl (Or.inl rfl) pe_int)
    (pss_cons (ps_for (passes_of rfl) rfl (pi_range1 (by rfl) B.range (pa_cons (pv 1) pa_nil)) (pg_name (i := 3) sc_power.nd rfl (Or.inl rfl)) (pss_one (ps_set (i := 2) sc_power.nd rfl (Or.inl rfl) (pe_op op_mul (pv 2) (pv 0)))))
    (pss_one (ps_ret (pv 2))))), ?_⟩
    refine ⟨iV m, rfl, m, rfl, by omega, by omega, for_range (lo := 0) (n := m) (fun i σ G => G = H ∧ ∃ y, σ = [some (iV b), some (iV m), some (iV (b ^ i)), y]) ⟨rfl, none, by rw [Nat.pow_zero] <;> rfl⟩ (fun i σ G hi w => ?_) (fun σ G w => ?_)⟩
    · obtain ⟨rfl, y, rfl⟩ := w
      refine ⟨iV (b ^ i), rfl, iV b, rfl, _, _, rfl, rfl, .inr ⟨by omega, by omega⟩, rfl, some (.int (0 + (i : Int))), ?_⟩
      show [some (iV b), some (iV m), some (V.int (((b ^ i : Nat) : Int) * (b : Int))), some (V.int (0 + (i : Int)))] = _
      rw [show ((b ^ i : Nat) : Int) * (b : Int) = ((b ^ (i + 1) : Nat) : Int) by rw [Nat.pow_succ, Int.natCast_mul]]
    · obtain ⟨rfl, y, rfl⟩ := w
      exact ⟨_, rfl, q⟩
theorem ok_count {CB : Addr} {f fC : Addr} {fd fdC : FuncData} (F : FnP K "coin_count" s_coin_count f fd) (T : Fn P w K mg base (L2.CX P w) 3 "check_house" ["house"] (spCheck K CB) fC fdC) (B : Blt mg) : FnOk P w K mg base (L2.CX P w) 4 f fd ["house"] (spCount K CB) := by
  refine F.ok (CX := L2.CX P w) sc_coin_count (fun vs H Q E h => ?_) (fun cdv A outer s H vs Q E hr h => ?_)
  · obtain ⟨v, o, rfl, _⟩ := h
    rfl
  · obtain ⟨v, o, rfl, hw, q0, q1⟩ := h
    refine ⟨_, pss_cons (ps_expr (pe_call T.G hr (by rfl) T.m T.k T.b .nil (passX (E := E) rfl rfl rfl rfl) (pa_cons (pv 0) pa_nil)))
      (pss_one (ps_ret (pe_callBfun call_comb (by rfl) B.comb (pa_cons (pe_ix ix_tup (pv 0) pe_int (fun _ _ => rfl)) (pa_cons (pe_ix ix_tup (pv 0) pe_int (fun _ _ => rfl)) pa_nil))))), ?_⟩
    refine ⟨v, rfl, v, o, rfl, hw, fun e => ?_, q1⟩
    subst e
    obtain ⟨a, n, k, d, p, c, rfl, h⟩ := hw.house
    have := h.n12; have := h.kn
    refine ⟨.ref a, rfl, a, _, _, .int n, rfl, rfl, SqT.of h.at_, atI_nat (j := 0) rfl, .ref a, rfl, a, _, _, .int k, rfl, rfl, SqT.of h.at_, atI_nat (j := 1) rfl, (n : Int), (k : Int), rfl, by omega, by omega, by omega, ?_⟩
    rw [comb_le (by omega) (by omega)]
    exact q0 a n k d p c rfl h
end
section
variable {P : Program} {w : World} {K : PySem.W.Frag} {mg : Str → Option Value} {base : Heap} {cs : Cs} {tb : Tb} {H : Hp} {vs : List V} {Q Q' : VK} {E : XK}
theorem mono_count {C : Addr} (h : spCount K C vs H Q E) (f : ∀ v H1, Q v H1 → Q' v H1) : spCount K C vs H Q' E := by
  obtain ⟨v, o, e, w, q1, q2⟩ := h
  exact ⟨v, o, e, w, fun a n k d p c e1 e2 => f _ _ (q1 a n k d p c e1 e2), q2⟩
theorem mono_many {Pn : Addr} {E' : XK} (h : spMany K Pn vs H Q E) (f : ∀ v H1, Q v H1 → Q' v H1) : spMany K Pn vs H Q' E' := by
  obtain ⟨a, ss, ls, e, h1, h2, h3, h4, q⟩ := h
  exact ⟨a, ss, ls, e, h1, h2, h3, h4, fun H2 k t => f _ _ (q H2 k t)⟩
theorem mono_above {Pu Pt : Addr} {E' : XK} (h : spAbove K Pu Pt vs H Q E) (f : ∀ v H1, Q v H1 → Q' v H1) : spAbove K Pu Pt vs H Q' E' := by
  obtain ⟨t, L, u, e, h1, h2, h3, h4, h5, q⟩ := h
  exact ⟨t, L, u, e, h1, h2, h3, h4, h5, fun t' H' a b => f _ _ (q t' H' a b)⟩
def sp_waiting_counts (K : PySem.W.Frag) (cs : Cs) (tb : Tb) : Sp := fun vs H Q E => ∃ v0 v1 v2 v3, vs = [v0, v1, v2, v3] ∧ sp_check_waits K cs tb [v0, v1, v2, v3] H (fun _ H1 => False) E
theorem ok_waiting_counts {f : Addr} {fd : FuncData} (F : FnP K "waiting_counts" s_waiting_counts f fd) (c : Ch2 P w K mg base cs tb) : FnOk P w K mg base (L2.CX P w) 11 f fd ["house", "way", "story", "drawer"] (sp_waiting_counts K cs tb) := by
  refine F.ok (CX := L2.CX P w) sc_waiting_counts (fun vs H Q E h => ?_) (fun cdv A outer s H vs Q E hr h => ?_)
  · obtain ⟨v0, v1, v2, v3, rfl, _⟩ := h
    rfl
  · obtain ⟨v0, v1, v2, v3, rfl, h⟩ := h
    refine ⟨_, (pss_cons (ps_expr (pe_call c.A.G (hr.mono (by decide)) (by rfl) c.A.m c.A.k c.A.b .nil (passX (E := E) rfl rfl rfl rfl) (pa_cons (pv 0) (pa_cons (pv 1) (pa_cons (pv 2) (pa_cons (pv 3) pa_nil)))))) pss_never), ?_⟩
    refine ⟨v0, rfl, v1, rfl, v2, rfl, v3, rfl, ?_⟩
    dsimp only [tNil, tCall, List.append_nil]
    refine mono_check_waits h (fun _ H1 h1 => ?_)
    exact h1.elim
def sp_looks (K : PySem.W.Frag) (cs : Cs) (tb : Tb) : Sp := fun vs H Q E => ∃ v0 v1 v2 v3 v4, vs = [v0, v1, v2, v3, v4] ∧ sp_check_run K cs tb [v0, v1, v2, v3] H (fun _ H1 => False) E
theorem ok_looks {f : Addr} {fd : FuncData} (F : FnP K "looks" s_looks f fd) (c : Ch2 P w K mg base cs tb) : FnOk P w K mg base (L2.CX P w) 11 f fd ["house", "way", "life", "coins", "drawer"] (sp_looks K cs tb) := by
  refine F.ok (CX := L2.CX P w) sc_looks (fun vs H Q E h => ?_) (fun cdv A outer s H vs Q E hr h => ?_)
  · obtain ⟨v0, v1, v2, v3, v4, rfl, _⟩ := h
    rfl
  · obtain ⟨v0, v1, v2, v3, v4, rfl, h⟩ := h
    refine ⟨_, (pss_cons (ps_expr (pe_call c.R.G (hr.mono (by decide)) (by rfl) c.R.m c.R.k c.R.b .nil (passX (E := E) rfl rfl rfl rfl) (pa_cons (pv 0) (pa_cons (pv 1) (pa_cons (pv 2) (pa_cons (pv 3) pa_nil)))))) pss_never), ?_⟩
    refine ⟨v0, rfl, v1, rfl, v2, rfl, v3, rfl, ?_⟩
    dsimp only [tNil, tCall, List.append_nil]
    refine mono_check_run h (fun _ H1 h1 => ?_)
    exact h1.elim
def sp_upper (K : PySem.W.Frag) (cs : Cs) (tb : Tb) : Sp := fun vs H Q E => ∃ v0 v1 v2, vs = [v0, v1, v2] ∧ spCheck K cs.B [v0] H (fun _ H1 => spLife K cs.L tb.m tb.s [v0, v1] H1 (fun _ H2 => spChk K (fun d _ => d) cs.D [v0, v2] H2 (fun _ H3 => spAbove K tb.u tb.a [v1, v2] H3 Q E) E) E) E
theorem ok_upper {f : Addr} {fd : FuncData} (F : FnP K "upper" s_upper f fd) (c : Ch2 P w K mg base cs tb) {fA : Addr} {dA : FuncData} (TA : Fn P w K mg base CX0 4 "above" ["life", "drawer"] (spAbove K tb.u tb.a) fA dA) : FnOk P w K mg base (L2.CX P w) 11 f fd ["house", "life", "drawer"] (sp_upper K cs tb) := by
  refine F.ok (CX := L2.CX P w) sc_upper (fun vs H Q E h => ?_) (fun cdv A outer s H vs Q E hr h => ?_)
  · obtain ⟨v0, v1, v2, rfl, _⟩ := h
    rfl
  · obtain ⟨v0, v1, v2, rfl, h⟩ := h
    refine ⟨_, (pss_cons (ps_expr (pe_call c.H.G (hr.mono (by decide)) (by rfl) c.H.m c.H.k c.H.b .nil (passX (E := E) rfl rfl rfl rfl) (pa_cons (pv 0) pa_nil))) (pss_cons (ps_expr (pe_call c.L.G (hr.mono (by decide)) (by rfl) c.L.m c.L.k c.L.b .nil (passX (E := E) rfl rfl rfl rfl) (pa_cons (pv 0) (pa_cons (pv 1) pa_nil)))) (pss_cons (ps_expr (pe_call c.D.G (hr.mono (by decide)) (by rfl) c.D.m c.D.k c.D.b .nil (passX (E := E) rfl rfl rfl rfl) (pa_cons (pv 0) (pa_cons (pv 2) pa_nil)))) (pss_one (ps_ret (pe_call TA.G (hr.mono (by decide)) (by rfl) TA.m TA.k TA.b .nil pass0 (pa_cons (pv 1) (pa_cons (pv 2) pa_nil)))))))), ?_⟩
    refine ⟨v0, rfl, ?_⟩
    dsimp only [tNil, tCall, List.append_nil]
    refine mono_house h (fun _ H1 h1 => ?_)
    refine ⟨v0, rfl, v1, rfl, ?_⟩
    dsimp only [tNil, tCall, List.append_nil]
    refine mono_life h1 (fun _ H2 h2 => ?_)
    refine ⟨v0, rfl, v2, rfl, ?_⟩
    dsimp only [tNil, tCall, List.append_nil]
    refine mono_chk h2 (fun _ H3 h3 => ?_)
    refine ⟨v1, rfl, v2, rfl, ?_⟩
    dsimp only [tNil, tCall, List.append_nil]
    exact mono_above h3 (fun _ _ z => z)
def sp_row_count (K : PySem.W.Frag) (cs : Cs) (tb : Tb) : Sp := fun vs H Q E => ∃ v0 v1, vs = [v0, v1] ∧ spCheck K cs.B [v0] H (fun _ H1 => spLife K cs.L tb.m tb.s [v0, v1] H1 (fun _ H2 => spCount K cs.B [v0] H2 (fun x H3 => spMany K tb.n [v1] H3 (fun y H4 => spPower [x, y] H4 Q E) E) E) E) E
theorem ok_row_count {f : Addr} {fd : FuncData} (F : FnP K "row_count" s_row_count f fd) (c : Ch2 P w K mg base cs tb) {fC fM fP : Addr} {dC dM dP : FuncData} (TC : Fn P w K mg base (L2.CX P w) 4 "coin_count" ["house"] (spCount K cs.B) fC dC) (TM : Fn P w K mg base CX0 2 "moment_count" ["life"] (spMany K tb.n) fM dM) (TP : Fn P w K mg base CX0 1 "power" ["base", "many"] spPower fP dP) : FnOk P w K mg base (L2.CX P w) 11 f fd ["house", "life"] (sp_row_count K cs tb) := by
  refine F.ok (CX := L2.CX P w) sc_row_count (fun vs H Q E h => ?_) (fun cdv A outer s H vs Q E hr h => ?_)
  · obtain ⟨v0, v1, rfl, _⟩ := h
    rfl
  · obtain ⟨v0, v1, rfl, h⟩ := h
    refine ⟨_, (pss_cons (ps_expr (pe_call c.H.G (hr.mono (by decide)) (by rfl) c.H.m c.H.k c.H.b .nil (passX (E := E) rfl rfl rfl rfl) (pa_cons (pv 0) pa_nil))) (pss_cons (ps_expr (pe_call c.L.G (hr.mono (by decide)) (by rfl) c.L.m c.L.k c.L.b .nil (passX (E := E) rfl rfl rfl rfl) (pa_cons (pv 0) (pa_cons (pv 1) pa_nil)))) (pss_one (ps_ret (pe_call TP.G (hr.mono (by decide)) (by rfl) TP.m TP.k TP.b .nil pass0 (pa_cons (pe_call TC.G (hr.mono (by decide)) (by rfl) TC.m TC.k TC.b .nil (passX (E := E) rfl rfl rfl rfl) (pa_cons (pv 0) pa_nil)) (pa_cons (pe_call TM.G (hr.mono (by decide)) (by rfl) TM.m TM.k TM.b .nil pass0 (pa_cons (pv 1) pa_nil)) pa_nil))))))), ?_⟩
    refine ⟨v0, rfl, ?_⟩
    dsimp only [tNil, tCall, List.append_nil]
    refine mono_house h (fun _ H1 h1 => ?_)
    refine ⟨v0, rfl, v1, rfl, ?_⟩
    dsimp only [tNil, tCall, List.append_nil]
    refine mono_life h1 (fun _ H2 h2 => ?_)
    refine ⟨v0, rfl, ?_⟩
    dsimp only [tNil, tCall, List.append_nil]
    refine mono_count h2 (fun x H3 z => ⟨v1, rfl, ?_⟩)
    dsimp only [tNil, tCall, List.append_nil]
    exact mono_many z (fun y H4 z => z)
def sp_alike_above (K : PySem.W.Frag) (cs : Cs) (tb : Tb) : Sp := fun vs H Q E => ∃ v0 v1 v2 v3, vs = [v0, v1, v2, v3] ∧ spCheck K cs.B [v0] H (fun _ H1 => spLife K cs.L tb.m tb.s [v0, v1] H1 (fun _ H2 => spLife K cs.L tb.m tb.s [v0, v2] H2 (fun _ H3 => spChk K (fun d _ => d) cs.D [v0, v3] H3 (fun _ H4 => spAbove K tb.u tb.a [v1, v3] H4 (fun x H5 => spAbove K tb.u tb.a [v2, v3] H5 (fun y H6 => rEqD K x y H6 Q) E) E) E) E) E) E
theorem ok_alike_above {f : Addr} {fd : FuncData} (F : FnP K "alike_above" s_alike_above f fd) (c : Ch2 P w K mg base cs tb) {fA : Addr} {dA : FuncData} (TA : Fn P w K mg base CX0 4 "above" ["life", "drawer"] (spAbove K tb.u tb.a) fA dA) : FnOk P w K mg base (L2.CX P w) 11 f fd ["house", "one", "other", "drawer"] (sp_alike_above K cs tb) := by
  refine F.ok (CX := L2.CX P w) sc_alike_above (fun vs H Q E h => ?_) (fun cdv A outer s H vs Q E hr h => ?_)
  · obtain ⟨v0, v1, v2, v3, rfl, _⟩ := h
    rfl
  · obtain ⟨v0, v1, v2, v3, rfl, h⟩ := h
    refine ⟨_, (pss_cons (ps_expr (pe_call c.H.G (hr.mono (by decide)) (by rfl) c.H.m c.H.k c.H.b .nil (passX (E := E) rfl rfl rfl rfl) (pa_cons (pv 0) pa_nil))) (pss_cons (ps_expr (pe_call c.L.G (hr.mono (by decide)) (by rfl) c.L.m c.L.k c.L.b .nil (passX (E := E) rfl rfl rfl rfl) (pa_cons (pv 0) (pa_cons (pv 1) pa_nil)))) (pss_cons (ps_expr (pe_call c.L.G (hr.mono (by decide)) (by rfl) c.L.m c.L.k c.L.b .nil (passX (E := E) rfl rfl rfl rfl) (pa_cons (pv 0) (pa_cons (pv 2) pa_nil)))) (pss_cons (ps_expr (pe_call c.D.G (hr.mono (by decide)) (by rfl) c.D.m c.D.k c.D.b .nil (passX (E := E) rfl rfl rfl rfl) (pa_cons (pv 0) (pa_cons (pv 3) pa_nil)))) (pss_one (ps_ret (pe_cmpR (op_eqD hr.units) (pe_call TA.G (hr.mono (by decide)) (by rfl) TA.m TA.k TA.b .nil pass0 (pa_cons (pv 1) (pa_cons (pv 3) pa_nil))) (pe_call TA.G (hr.mono (by decide)) (by rfl) TA.m TA.k TA.b .nil pass0 (pa_cons (pv 2) (pa_cons (pv 3) pa_nil))) (nomark _)))))))), ?_⟩
    refine ⟨v0, rfl, ?_⟩
    dsimp only [tNil, tCall, List.append_nil]
    refine mono_house h (fun _ H1 h1 => ?_)
    refine ⟨v0, rfl, v1, rfl, ?_⟩
    dsimp only [tNil, tCall, List.append_nil]
    refine mono_life h1 (fun _ H2 h2 => ?_)
    refine ⟨v0, rfl, v2, rfl, ?_⟩
    dsimp only [tNil, tCall, List.append_nil]
    refine mono_life h2 (fun _ H3 h3 => ?_)
    refine ⟨v0, rfl, v3, rfl, ?_⟩
    dsimp only [tNil, tCall, List.append_nil]
    refine mono_chk h3 (fun _ H4 h4 => ?_)
    refine ⟨v1, rfl, v3, rfl, ?_⟩
    dsimp only [tNil, tCall, List.append_nil]
    refine mono_above h4 (fun x H5 z => ⟨v2, rfl, v3, rfl, ?_⟩)
    dsimp only [tNil, tCall, List.append_nil]
    exact mono_above z (fun y H6 z => z)
end
end K01

set_option maxHeartbeats 4000000
namespace K01
open PySem PySem.Spec PyProof.Rows L2 Hd Evl
/-! ### what a call refuses -/
inductive Er where
  | story (i : Option Nat) | life (i : Option Nat) | coins (i : Option Nat) | drawer
def ixV : Option Nat → V
  | none => .non
  | some i => .int (i : Nat)
/-- the place of what is wrong, as the law tells it -/
def ixT : Option Nat → V
  | none => .str "none"
  | some i => .int (i : Nat)
def Er.told : Er → List V
  | .story i => [.str "story", ixT i]
  | .life i => [.str "life", ixT i]
  | .coins i => [.str "coins", ixT i]
  | .drawer => [.str "drawer", .int 0]
/-- the field f of the error holds v -/
def Fld (f : Str) (v : V) (d : Option Addr) (H : Hp) : Prop := ∃ dd, d = some dd ∧ H dd = some (.xd [(f, v)])
def smallO (o : Option Nat) : Prop := ∀ i, o = some i → i < 1000
def Er.is (cs : Cs) : Er → Value → Option Addr → Hp → Prop
  | .story i, c, d, H => c = .ref cs.S ∧ Fld "index" (ixV i) d H ∧ smallO i
  | .life i, c, d, H => c = .ref cs.L ∧ Fld "index" (ixV i) d H ∧ smallO i
  | .coins i, c, d, H => c = .ref cs.C ∧ Fld "index" (ixV i) d H ∧ smallO i
  | .drawer, c, _, _ => c = .ref cs.D
section
variable {K : PySem.W.Frag} {H : Hp} {cs : Cs} {tb : Tb} {er : Er} {sp sp1 sp2 : Sp} {vs vs1 vs2 : List V}
def Told (K : PySem.W.Frag) (cs : Cs) (sp : Sp) (vs : List V) (H : Hp) (er : Er) : Prop := ∀ (Q : VK) (E : XK), (∀ cls d H', Ks K H H' → er.is cs cls d H' → E cls d H') → sp vs H Q E
def Pass (K : PySem.W.Frag) (sp : Sp) (vs : List V) (H : Hp) : Prop := ∀ (Q : VK) (E : XK), (∀ H', Ks K H H' → Q .non H') → sp vs H Q E
theorem snd_told (p : Pass K sp1 vs1 H) (t : ∀ H', Ks K H H' → Told K cs sp2 vs2 H' er) (Q : VK) (E : XK) (h : ∀ cls d H', Ks K H H' → er.is cs cls d H' → E cls d H') : sp1 vs1 H (fun _ H1 => sp2 vs2 H1 Q E) E :=
  p _ _ fun H1 k1 => t H1 k1 Q E fun cls d H2 k2 i => h cls d H2 (k1.trans k2) i
theorem snd_pass (p : Pass K sp1 vs1 H) (t : ∀ H', Ks K H H' → Pass K sp2 vs2 H') (Q : VK) (E : XK) (h : ∀ H', Ks K H H' → Q .non H') : sp1 vs1 H (fun _ H1 => sp2 vs2 H1 Q E) E :=
  p _ _ fun H1 k1 => t H1 k1 Q E fun H2 k2 => h H2 (k1.trans k2)
/-! #### the checks -/
theorem p_house {a : Addr} {n k d p c : Nat} (hh : HouseAt H a n k d p c) : Pass K (spCheck K cs.B) [.ref a] H := fun Q E h =>
  ⟨.ref a, none, rfl, hh.wr, fun _ => h H Ks.refl, fun y ey => by cases ey⟩
/-- a life at v: good, or wrong at a place -/
structure LifeOf (K : PySem.W.Frag) (H : Hp) (d p : Nat) (tb : Tb) (v : V) (o : Option (List (Bool × Nat))) : Prop where
  v : LifeV K H d p v o
  m : GxR.TabG H tb.m
  s : GxR.TabG H tb.s
theorem p_life {a : Addr} {n k d p c : Nat} {v : V} {l : List (Bool × Nat)} (hh : HouseAt H a n k d p c) (L : LifeOf K H d p tb v (some l)) (g : GoodL l l.length) : Pass K (spLife K cs.L tb.m tb.s) [.ref a, v] H := fun Q E h =>
  ⟨a, n, k, d, p, c, v, some l, rfl, hh, L.v, L.m, L.s, fun z => (by cases z), fun l' el => by
    cases el
    refine ⟨fun _ => h, fun i _ b hi => ?_⟩
    obtain ⟨x, hx⟩ : ∃ x, l[i]? = some x := ⟨l[i], List.getElem?_eq_getElem hi⟩
    rcases b x hx with z | z
    · rw [g.fst hi hx] at z
      cases z
    · exact (z (g.le hi)).elim⟩
theorem t_life {a : Addr} {n k d p c : Nat} {v : V} (hh : HouseAt H a n k d p c) (L : LifeOf K H d p tb v none) : Told K cs (spLife K cs.L tb.m tb.s) [.ref a, v] H (.life none) := fun Q E h =>
  ⟨a, n, k, d, p, c, v, none, rfl, hh, L.v, L.m, L.s, fun _ dd H' k' _ hd => h _ _ _ k' ⟨rfl, ⟨dd, rfl, hd⟩, fun i z => by cases z⟩, fun l' el => by cases el⟩
theorem t_lifeAt {a : Addr} {n k d p c i : Nat} {v : V} {l : List (Bool × Nat)} (hh : HouseAt H a n k d p c) (L : LifeOf K H d p tb v (some l)) (g : GoodL l i) {m : Nat} (b : l[i]? = some (false, m)) (si : i < 1000) : Told K cs (spLife K cs.L tb.m tb.s) [.ref a, v] H (.life (some i)) := fun Q E h =>
  ⟨a, n, k, d, p, c, v, some l, rfl, hh, L.v, L.m, L.s, fun z => (by cases z), fun l' el => by
    cases el
    have hi : i < l.length := (List.getElem?_eq_some_iff.mp b).1
    refine ⟨fun g2 => ?_, fun j gj bj hj dd H' k' _ hd => ?_⟩
    · have := g2.fst hi b
      cases this
    · have e : j = i := by
        rcases Nat.lt_trichotomy j i with z | z | z
        · obtain ⟨x, hx⟩ : ∃ x, l[j]? = some x := ⟨l[j], List.getElem?_eq_getElem hj⟩
          rcases bj x hx with y | y
          · rw [g.fst z hx] at y
            cases y
          · exact (y (g.le z)).elim
        · exact z
        · have := gj.fst z b
          cases this
      rw [e] at hd
      exact h _ _ _ k' ⟨rfl, ⟨dd, rfl, hd⟩, fun q eq => by cases eq; exact si⟩⟩
theorem p_way {x : Str} (b : wayOk (.str x) = true) : Pass K (spWay K cs.B) [.str x] H := fun Q E h =>
  ⟨.str x, "str", rfl, .str x, fun _ => h H Ks.refl, fun z => by rw [b] at z; cases z⟩
theorem t_chk {top : Nat → Nat → Nat} {C : Addr} {er : Er} {a : Addr} {n k d p c : Nat} {v : V} {s : String} (hh : HouseAt H a n k d p c) (kv : KindV K H v s) (b : isNum v 0 ((top d p : Nat) - 1) = false) (e : ∀ d H', er.is cs (.ref C) d H') : Told K cs (spChk K top C) [.ref a, v] H er := fun Q E h =>
  ⟨a, n, k, d, p, c, v, s, rfl, hh, kv, fun z => (by rw [b] at z; cases z), fun _ => h _ _ _ Ks.refl (e _ _)⟩
theorem p_chk {top : Nat → Nat → Nat} {C : Addr} {a : Addr} {n k d p c : Nat} {v : V} {s : String} (hh : HouseAt H a n k d p c) (kv : KindV K H v s) (b : isNum v 0 ((top d p : Nat) - 1) = true) : Pass K (spChk K top C) [.ref a, v] H := fun Q E h =>
  ⟨a, n, k, d, p, c, v, s, rfl, hh, kv, fun _ => h H Ks.refl, fun z => by rw [b] at z; cases z⟩
/-- the moments of a life at l -/
structure SessOf (H : Hp) (tb : Tb) (l : Addr) (m : Nat) : Prop where
  go : ∃ ss ls, H l = some (.tup ss) ∧ Paired (SessL H) ss ls ∧ ls.sum = m ∧ m ≤ 1000
  n : GxR.TabG H tb.n
theorem t_coins {a l : Addr} {n k d p c m i : Nat} {v : V} {bs : List Bool} (hh : HouseAt H a n k d p c) (S : SessOf H tb l m) (cv : CoinsV K H (nck n k) m v (some bs)) (g : (bs.take i).all id = true) (b : bs[i]? = some false) (si : i < 1000) : Told K cs (spCoins K cs.C tb.n) [.ref a, .ref l, v] H (.coins (some i)) := fun Q E h => by
  obtain ⟨ss, ls, h1, h2, h3, h4⟩ := S.go
  subst h3
  refine ⟨a, n, k, d, p, c, l, ss, ls, v, some bs, rfl, hh, h1, h2, Nat.le_trans h4 (by decide), cv, S.n, fun z => (by cases z), fun bs' el => ?_⟩
  cases el
  have hi : i < bs.length := (List.getElem?_eq_some_iff.mp b).1
  refine ⟨fun al => ?_, fun j bj gj dd H' k' _ hd => ?_⟩
  · have := List.all_eq_true.mp al false (List.mem_of_getElem? b)
    cases this
  · have e : j = i := by
      rcases Nat.lt_trichotomy j i with z | z | z
      · have := List.all_eq_true.mp g false (List.mem_of_getElem? (i := j) (by rw [List.getElem?_take_of_lt z]; exact bj))
        cases this
      · exact z
      · have := List.all_eq_true.mp gj false (List.mem_of_getElem? (i := i) (by rw [List.getElem?_take_of_lt z]; exact b))
        cases this
    rw [e] at hd
    exact h _ _ _ k' ⟨rfl, ⟨dd, rfl, hd⟩, fun q eq => by cases eq; exact si⟩
theorem p_coins {a l : Addr} {n k d p c m : Nat} {v : V} {bs : List Bool} (hh : HouseAt H a n k d p c) (S : SessOf H tb l m) (cv : CoinsV K H (nck n k) m v (some bs)) (g : bs.all id = true) : Pass K (spCoins K cs.C tb.n) [.ref a, .ref l, v] H := fun Q E h => by
  obtain ⟨ss, ls, h1, h2, h3, h4⟩ := S.go
  subst h3
  refine ⟨a, n, k, d, p, c, l, ss, ls, v, some bs, rfl, hh, h1, h2, Nat.le_trans h4 (by decide), cv, S.n, fun z => (by cases z), fun bs' el => ?_⟩
  cases el
  refine ⟨fun _ H2 k2 _ => h H2 k2, fun j bj _ => ?_⟩
  have := List.all_eq_true.mp g false (List.mem_of_getElem? bj)
  cases this
theorem t_story {a : Addr} {n k d p c : Nat} {v : V} (hh : HouseAt H a n k d p c) (sv : StoryV K H d p v none) (tg : GxR.TabG H tb.m) : Told K cs (spStory K cs.S tb.m) [.ref a, v] H (.story none) := fun Q E h =>
  ⟨a, n, k, d, p, c, v, none, rfl, hh, sv, tg, fun _ dd H' k' _ hd => h _ _ _ k' ⟨rfl, ⟨dd, rfl, hd⟩, fun i z => by cases z⟩, fun l' el => by cases el⟩
theorem t_storyAt {a : Addr} {n k d p c i : Nat} {v : V} {bs : List Bool} (hh : HouseAt H a n k d p c) (sv : StoryV K H d p v (some bs)) (tg : GxR.TabG H tb.m) (g : (bs.take i).all id = true) (b : bs[i]? = some false) (si : i < 1000) : Told K cs (spStory K cs.S tb.m) [.ref a, v] H (.story (some i)) := fun Q E h => by
  refine ⟨a, n, k, d, p, c, v, some bs, rfl, hh, sv, tg, fun z => (by cases z), fun bs' el => ?_⟩
  cases el
  refine ⟨fun al => ?_, fun j bj gj dd H' k' _ hd => ?_⟩
  · have := List.all_eq_true.mp al false (List.mem_of_getElem? b)
    cases this
  · have e : j = i := by
      rcases Nat.lt_trichotomy j i with z | z | z
      · have := List.all_eq_true.mp g false (List.mem_of_getElem? (i := j) (by rw [List.getElem?_take_of_lt z]; exact bj))
        cases this
      · exact z
      · have := List.all_eq_true.mp gj false (List.mem_of_getElem? (i := i) (by rw [List.getElem?_take_of_lt z]; exact b))
        cases this
    rw [e] at hd
    exact h _ _ _ k' ⟨rfl, ⟨dd, rfl, hd⟩, fun q eq => by cases eq; exact si⟩
theorem p_story {a : Addr} {n k d p c : Nat} {v : V} {bs : List Bool} (hh : HouseAt H a n k d p c) (sv : StoryV K H d p v (some bs)) (tg : GxR.TabG H tb.m) (g : bs.all id = true) : Pass K (spStory K cs.S tb.m) [.ref a, v] H := fun Q E h => by
  refine ⟨a, n, k, d, p, c, v, some bs, rfl, hh, sv, tg, fun z => (by cases z), fun bs' el => ?_⟩
  cases el
  refine ⟨fun _ H2 k2 _ => h H2 k2, fun j bj _ => ?_⟩
  have := List.all_eq_true.mp g false (List.mem_of_getElem? bj)
  cases this
end

def Cs.at (cs : Cs) : Nat → Addr
  | 0 => cs.S
  | 1 => cs.L
  | 2 => cs.C
  | _ => cs.D
/-- what the lambda raises, told, or its answer -/
def TTold (cs : Cs) : (XK → Hp → VK → Prop) → Hp → VK → Prop := fun tl H Q =>
  tl (fun cls d H' => ∃ er : Er, er.is cs cls d H' ∧ ∀ t, H' t = none → Q (.ref t) (upd H' t (.tup er.told))) H Q
structure ToldF (K : PySem.W.Frag) (mg : Str → Option Value) (cs : Cs) : Prop where
  gS : mg "BadStory" = some (.ref cs.S)
  gL : mg "BadLife" = some (.ref cs.L)
  gC : mg "BadCoins" = some (.ref cs.C)
  gD : mg "BadDrawer" = some (.ref cs.D)
  XS : XfC K cs.S
  XL : XfC K cs.L
  XC : XfC K cs.C
  nS : PySem.W.findIn K (.ref cs.S) "index" = some none
  nL : PySem.W.findIn K (.ref cs.L) "index" = some none
  nC : PySem.W.findIn K (.ref cs.C) "index" = some none
  x : ∀ i j, i < 4 → j ≤ i → PySem.W.exmOne K (.ref (cs.at i)) (.ref (cs.at j)) = some (i == j)
section
variable {P : Program} {w : World} {K : PySem.W.Frag} {mg : Str → Option Value} {base : Heap} {cs : Cs}
theorem takes_len {X : Cx} {W : WX} (t : Takes X W) : Takes X (fun c d σ H => σ.length = X.N.length → W c d σ H) := fun u s' ⟨a, B, sI, pins, σ, H, cls, d, e, I, nb, up, sky, na, os, ag, w⟩ =>
  t u s' ⟨a, B, sI, pins, σ, H, cls, d, e, I, nb, up, sky, na, os, ag, w I.len⟩
theorem told_gives {X : Cx} {q : Str} {g : Addr} {cdg : Value} (W : ToldF X.K X.mg cs) :
    LamX.GivesTo X n__law_told "_law_told" (defScope s__law_told) g cdg (defBody s__law_told) "work" q (TTold cs) := by
  intro f c' s H Q tl act hc h
  let X0 : Cx := (cxOf C8.CX0 X.prog X.w X.K X.mg X.base n__law_told "_law_told" (defScope s__law_told) g cdg X.A X.stack s H C8.E0).nox
  refine ⟨_, pss_one (ps_tries (X := X0)
      (tb := fun W D σ H => ∃ Ech : XK, (∀ cls d σ' H', Ech cls d H' → σ'.length = 2 → W cls d σ' H') ∧ σ[0]? = some (some (.ref f)) ∧ H c' = some (LamX.CodeO c' q) ∧ tl Ech H D.rt)
      rfl rfl LamX.takes0 (fun W pn xe tk _ => ⟨fun pins s' σ H' D I h' => ?_⟩)
      (Clauses.as_ (i := 1) sc__law_told.nd rfl rfl ⟨by rfl, by decide, .inl W.gS⟩ (fun a oe k d pn z hf => pss_one (ps_ret (pe_tup (pa_cons pe_str (pa_cons (pe_ifExp (pt_cmpR op_isN (pe_xf W.XS W.nS z hf (pv 1)) pe_non (nomark _)) pe_str (pe_xf W.XS W.nS z hf (pv 1))) pa_nil)))))
      (Clauses.as_ (i := 1) sc__law_told.nd rfl rfl ⟨by rfl, by decide, .inl W.gL⟩ (fun a oe k d pn z hf => pss_one (ps_ret (pe_tup (pa_cons pe_str (pa_cons (pe_ifExp (pt_cmpR op_isN (pe_xf W.XL W.nL z hf (pv 1)) pe_non (nomark _)) pe_str (pe_xf W.XL W.nL z hf (pv 1))) pa_nil)))))
      (Clauses.as_ (i := 1) sc__law_told.nd rfl rfl ⟨by rfl, by decide, .inl W.gC⟩ (fun a oe k d pn z hf => pss_one (ps_ret (pe_tup (pa_cons pe_str (pa_cons (pe_ifExp (pt_cmpR op_isN (pe_xf W.XC W.nC z hf (pv 1)) pe_non (nomark _)) pe_str (pe_xf W.XC W.nC z hf (pv 1))) pa_nil)))))
      (Clauses.bare ⟨by rfl, by decide, .inl W.gD⟩ (fun a oe k d pn z _ => pss_one (ps_ret (pe_tup (pa_cons pe_str (pa_cons pe_int pa_nil))))) .nil))))), ?_⟩
  · obtain ⟨Ech, hW, h1, h2, h3⟩ := h'
    have hp := fun p1 p2 => act (fun c d σ H => σ.length = 2 → W c d σ H) pn xe Ech p1 p2 (takes_len tk) hW
    exact (pss_one (ps_ret (hp _ _))).run pins s' σ H' D I ⟨h1, h2, h3⟩
  · refine ⟨fun cls d H' => ∃ er : Er, er.is cs cls d H' ∧ ∀ t, H' t = none → Q (.ref t) (upd H' t (.tup er.told)), ?_, rfl, hc, h⟩
    intro cls d σ' H' hE hl
    have no : ∀ i j, i < 4 → j < i → PySem.W.exmOne X.K (.ref (cs.at i)) (.ref (cs.at j)) = some false := fun i j h1 h2 => by
      rw [W.x i j h1 (Nat.le_of_lt h2)]
      congr 1
      exact beq_eq_false_iff_ne.mpr (Nat.ne_of_gt h2)
    have yes : ∀ i, i < 4 → PySem.W.exmOne X.K (.ref (cs.at i)) (.ref (cs.at i)) = some true := fun i h1 => by
      rw [W.x i i h1 (Nat.le_refl _), beq_self_eq_true]
    match σ', hl with
    | [y1, y2], _ =>
      obtain ⟨er, hi, hq⟩ := hE
      cases er with
      | story o =>
        obtain ⟨rfl, ⟨dd, rfl, hx⟩, so⟩ := hi
        refine ⟨true, yes 0 (by decide), fun _ a _ => ⟨.ref a, rfl, rfl, rfl, dd, _, ixV o, rfl, hx, rfl, rfl, _, rfl, ?_⟩, fun z => by cases z⟩
        cases o with
        | none => exact iteT ⟨by show 2 ≤ sizeLine; decide, hq⟩
        | some i => exact iteF ⟨.ref a, rfl, rfl, rfl, dd, _, ixV (some i), rfl, hx, rfl, by show 2 ≤ sizeLine; decide, hq⟩
      | life o =>
        obtain ⟨rfl, ⟨dd, rfl, hx⟩, so⟩ := hi
        refine ⟨false, no 1 0 (by decide) (by decide), fun z => (by cases z), fun _ => ⟨true, yes 1 (by decide), fun _ a _ => ⟨.ref a, rfl, rfl, rfl, dd, _, ixV o, rfl, hx, rfl, rfl, _, rfl, ?_⟩, fun z => by cases z⟩⟩
        cases o with
        | none => exact iteT ⟨by show 2 ≤ sizeLine; decide, hq⟩
        | some i => exact iteF ⟨.ref a, rfl, rfl, rfl, dd, _, ixV (some i), rfl, hx, rfl, by show 2 ≤ sizeLine; decide, hq⟩
      | coins o =>
        obtain ⟨rfl, ⟨dd, rfl, hx⟩, so⟩ := hi
        refine ⟨false, no 2 0 (by decide) (by decide), fun z => (by cases z), fun _ => ⟨false, no 2 1 (by decide) (by decide), fun z => (by cases z), fun _ => ⟨true, yes 2 (by decide), fun _ a _ => ⟨.ref a, rfl, rfl, rfl, dd, _, ixV o, rfl, hx, rfl, rfl, _, rfl, ?_⟩, fun z => by cases z⟩⟩⟩
        cases o with
        | none => exact iteT ⟨by show 2 ≤ sizeLine; decide, hq⟩
        | some i => exact iteF ⟨.ref a, rfl, rfl, rfl, dd, _, ixV (some i), rfl, hx, rfl, by show 2 ≤ sizeLine; decide, hq⟩
      | drawer =>
        obtain rfl := hi
        exact ⟨false, no 3 0 (by decide) (by decide), fun z => (by cases z), fun _ => ⟨false, no 3 1 (by decide) (by decide), fun z => (by cases z), fun _ => ⟨false, no 3 2 (by decide) (by decide), fun z => (by cases z), fun _ => ⟨true, yes 3 (by decide), fun _ a _ => ⟨by show 2 ≤ sizeLine; decide, hq⟩, fun z => by cases z⟩⟩⟩⟩
end
end K01

set_option maxHeartbeats 4000000
namespace K01
open PySem PySem.Spec PyProof.Rows L2 Hd Evl
/-! ### the law's tools -/
/-- the tables that a call may change: the program's, the caller's own -/
def S1 (K : PySem.W.Frag) (P : Addr) : Addr → Prop := fun b => Sk K b ∨ b = P
section
variable {S : Addr → Prop} {K : PySem.W.Frag} {P : Addr} {q : Str} {H H' H1 : Hp}
theorem tabS_kl (n : ¬ S P) (T : LamX.TabS H P q) (k : Kl S H H') : LamX.TabS H' P q := by
  obtain ⟨ps, h1, h2, h3⟩ := T
  exact ⟨ps, k.s _ _ n h1, h2, fun pos cv hc => let ⟨c, e1, e2⟩ := h3 pos cv hc; ⟨c, e1, k.e _ _ e2 LamX.codeO_ne⟩⟩
theorem tabG_of (T : LamX.TabS H P q) : GxR.TabG H P := let ⟨ps, h1, h2, _⟩ := T; ⟨ps, h1, h2⟩
theorem off_kl (T : LamX.TabS H P q) (T1 : LamX.TabS H1 P q) (o : OffP P H H1) : Kl (S1 K P) H H1 := by
  obtain ⟨ps, hP, _, _⟩ := id T
  refine ⟨fun b o' h n => o b o' (fun e => by rw [e, hP] at h; exact n ps (Option.some.inj h).symm) h, fun b o' n h => o b o' (fun e => n (.inr e)) h, fun P' h => ?_⟩
  by_cases e : P' = P
  · rw [e]
    exact tabG_of T1
  · obtain ⟨qs, h1, h2⟩ := h
    exact ⟨qs, o _ _ e h1, h2⟩
theorem tabS_put {D : Addr} {xs ys : List V} (T : LamX.TabS H P q) (hD : H D = some (.lst xs)) : LamX.TabS (upd H D (.lst ys)) P q := by
  obtain ⟨ps, h1, h2, h3⟩ := T
  refine ⟨ps, ?_, h2, fun pos cv hc => ?_⟩
  · rw [upd_ne (fun e => by rw [e, hD] at h1; cases h1)]
    exact h1
  · obtain ⟨c, e1, e2⟩ := h3 pos cv hc
    refine ⟨c, e1, ?_⟩
    rw [upd_ne (fun e => by rw [e, hD] at e2; unfold LamX.CodeO at e2; cases e2)]
    exact e2
theorem ks_s1 (k : Ks K H H') : Kl (S1 K P) H H' := k.mono fun _ h => .inl h
/-- tuples stay, lists and tables are lists and tables -/
structure Kv (H H' : Hp) : Prop where
  w : Kw H H'
  g : ∀ P, GxR.TabG H P → GxR.TabG H' P
theorem Kl.v (k : Kl S H H') : Kv H H' := ⟨k.w, k.g⟩
theorem Kv.refl : Kv H H := ⟨Kw.refl, fun _ h => h⟩
theorem Kv.trans (a : Kv H H') (b : Kv H' H1) : Kv H H1 := ⟨a.w.trans b.w, fun P h => b.g P (a.g P h)⟩
theorem Kv.ex (e : Ex H H1) : Kv H H1 := ⟨Kw.ex e, fun _ h => tab_ex h e⟩
theorem Kv.put {D : Addr} {xs ys : List V} (h : H D = some (.lst xs)) : Kv H (upd H D (.lst ys)) := ⟨Kw.put h, fun P ⟨qs, h1, h2⟩ => ⟨qs, by
  rw [upd_ne (fun e => by rw [e, h] at h1; cases h1)]
  exact h1, h2⟩⟩
end
/-- the def that tells an error -/
structure ToldD (K : PySem.W.Frag) (mg : Str → Option Value) (cs : Cs) : Type where
  f : Addr
  fd : FuncData
  F : FnP K "_law_told" s__law_told f fd
  m : mg "_law_told" = some (.ref f)
  b : Binds K fd ["work"] []
  w : ToldF K mg cs
section
variable {cs : Cs}
theorem pe_told {X : Cx} {c Pa : Addr} {k : Nat} {params : Arguments} {body : Expr} {scope : Scope} {t : XK → TE} {p lpos pos : Pos} (W : ToldD X.K X.mg cs) (q : Str) (TB : LamX.TabB X.base X.mg c Pa) (hq : lamQ X = q) (hcode : X.env.code = .ref c) (hg : Gl X "_law_told") (hr : Room (k + 2) X.A) (L : LamX.LamS X.env.scope scope)
    (hbody : ∀ (A : Around) (outer : List Env) (s : Shared) (H : Hp) (E : XK) (f c' : Addr), Room k (A.deeper (LamX.lamEnv X scope s.heap.objs.size f c')) → PE (LamX.lamCx X A outer s H E scope f c') body (t E))
    (hdef : defaultsOf params X.env = ([], [])) (hbind : ∀ (q : Str) (cl : List (Str × Addr)) (pm cv ctv : Value), bindArgs (PySem.W.kla_fn "<lambda>" q params body scope cl pm cv ctv) ⟨[], []⟩ = pure []) :
    PE X (.Call (.Name "_law_told" p) [.Lambda params body scope lpos] [] pos) (tLamP Pa q (TTold cs) t) := by
  subst hq
  obtain ⟨oc, od, dV, kV, doc, pm, an, cdv, ct, osl, e, lk, hcd, _, _⟩ := W.F.ex
  have lk' := lk
  rw [e] at lk'
  have hb := W.b
  rw [e] at hb
  exact pe_lamP hg W.m W.F.kp lk' hcd hb sc__law_told rfl (Or.inl rfl) (told_gives W.w) TB hcode hr L hdef hbind hbody
end
section
variable {K : PySem.W.Frag} {P : Addr} {q : Str} {H H' H1 : Hp} {cs : Cs} {er : Er} {σ : L2.St}
theorem told_go {t : XK → TE} {Q : VK} (T : LamX.TabS H P q)
    (h : ∀ H1 (Qn : VK) (E : XK), Kl (S1 K P) H H1 → LamX.TabS H1 P q → (∀ cls d H3, Kl (S1 K P) H H3 → LamX.TabS H3 P q → er.is cs cls d H3 → E cls d H3) → t E σ H1 Qn)
    (hq : ∀ H3 p, Kl (S1 K P) H H3 → LamX.TabS H3 P q → H3 p = some (.tup er.told) → Q (.ref p) H3) : tLamP P q (TTold cs) t σ H Q :=
  ⟨T, fun H1 o T1 => h H1 _ _ (off_kl T T1 o) T1 fun cls d H3 k3 T3 i => ⟨er, i, fun p np => hq _ p (k3.trans (Kl.ex (Ex.new np))) (T3.ext (Ex.new np)) upd_same⟩⟩
/-- a call that is told: its own promise ends with the error -/
theorem told_one {sp : Sp} {vs : List V} {E : XK} {Qn : VK} (nS : ¬ Sk K P) (td : Told K cs sp vs H1 er) (k1 : Kl (S1 K P) H H1) (T1 : LamX.TabS H1 P q) (hE : ∀ cls d H3, Kl (S1 K P) H H3 → LamX.TabS H3 P q → er.is cs cls d H3 → E cls d H3) : sp vs H1 Qn E :=
  td Qn E fun cls d H3 k3 i => hE cls d H3 (k1.trans (ks_s1 k3)) (tabS_kl nS T1 k3) i
end
/-! ### the draws -/
section
variable {S : Addr → Prop} {K : PySem.W.Frag} {r a : Addr} {ns : List Int} {H H1 : Hp}
theorem Rw.kl (W : Rw K r a ns H) (e : Kl S H H1) : Rw K r a ns H1 := by
  obtain ⟨i, sd, rs, h, b⟩ := W.row
  refine ⟨⟨i, sd, rs, e.l _ _ h, b⟩, ?_⟩
  rcases W.src with q | ⟨n, q | ⟨o, q⟩⟩
  · exact .inl q
  · exact .inr ⟨n, .inl (e.l _ _ q)⟩
  · exact .inr ⟨n, .inr ⟨o, e.e _ _ q (fun ps z => by cases z)⟩⟩
theorem tabG_kq {P : Addr} (W : Rw K r a ns H) (k : Kq r H H1) (T : GxR.TabG H P) : GxR.TabG H1 P := by
  obtain ⟨ps, h1, h2⟩ := T
  obtain ⟨xs, hr⟩ := W.lst
  exact ⟨ps, k _ _ (fun e => by rw [e, hr] at h1; cases h1) h1, h2⟩
theorem tabS_kq {P : Addr} {q : Str} (W : Rw K r a ns H) (k : Kq r H H1) (T : LamX.TabS H P q) : LamX.TabS H1 P q := by
  obtain ⟨ps, h1, h2, h3⟩ := T
  obtain ⟨xs, hr⟩ := W.lst
  refine ⟨ps, k _ _ (fun e => by rw [e, hr] at h1; cases h1) h1, h2, fun pos cv hc => ?_⟩
  obtain ⟨c, e1, e2⟩ := h3 pos cv hc
  exact ⟨c, e1, k _ _ (fun e => by rw [e, hr] at e2; unfold LamX.CodeO at e2; cases e2) e2⟩
theorem Kl.kr (k : Kl S H H1) : Kr r H H1 := fun b o _ t h => k.e b o h t
/-- the tables of the program, of the law -/
structure Tbs (tb : Tb) (Pa : Addr) (q : Str) (H : Hp) : Prop where
  m : GxR.TabG H tb.m
  s : GxR.TabG H tb.s
  n : GxR.TabG H tb.n
  u : GxR.TabG H tb.u
  a : GxR.TabG H tb.a
  l : LamX.TabS H Pa q
theorem Tbs.kq {tb : Tb} {Pa : Addr} {q : Str} (T : Tbs tb Pa q H) (W : Rw K r a ns H) (k : Kq r H H1) : Tbs tb Pa q H1 := ⟨tabG_kq W k T.m, tabG_kq W k T.s, tabG_kq W k T.n, tabG_kq W k T.u, tabG_kq W k T.a, tabS_kq W k T.l⟩
theorem Tbs.kl {tb : Tb} {Pa : Addr} {q : Str} (T : Tbs tb Pa q H) (k : Kl S H H1) (l : LamX.TabS H1 Pa q) : Tbs tb Pa q H1 := ⟨k.g _ T.m, k.g _ T.s, k.g _ T.n, k.g _ T.u, k.g _ T.a, l⟩
/-- things[_law_taken(row, len(things))] -/
structure PickP (K : PySem.W.Frag) (vs : List V) (H : Hp) (Q : VK) : Prop where
  go : ∃ (r a l : Addr) (ns : List Int) (xs : List V), vs = [.ref r, .ref l] ∧ Rw K r a ns H ∧ H l = some (.lst xs) ∧ l ≠ r ∧ 1 ≤ xs.length ∧ xs.length ≤ 1000 ∧ ∀ v ∈ xs, ∀ H', Kq r H H' → Rw K r a ns H' → Q v H'
def spPick (K : PySem.W.Frag) : Sp := fun vs H Q _ => PickP K vs H Q
end
section
variable {CX : CXT} {P : Program} {w : World} {K : PySem.W.Frag} {mg : Str → Option Value} {base : Heap}
theorem ok_pick {f fT : Addr} {fd fdT : FuncData} (F : FnP K "_law_pick" s__law_pick f fd) (B : Blt mg) (T : Fn P w K mg base CX0 1 "_law_taken" ["row", "many"] (spTaken K) fT fdT) : FnOk P w K mg base CX 2 f fd ["row", "things"] (spPick K) := by
  refine F.ok (CX := CX) sc__law_pick (fun vs H Q E h => ?_) (fun cdv A outer s H vs Q E hr h => ?_)
  · obtain ⟨r, a, l, ns, xs, rfl, _⟩ := h
    rfl
  · obtain ⟨r, a, l, ns, xs, rfl, W, hl, nl, l1, l2, q⟩ := h
    refine ⟨_, pss_one (ps_ret (pe_ix ix_list (pv 1) (pe_call T.G hr (by rfl) T.m T.k T.b .nil pass0 (pa_cons (pv 0) (pa_cons (pe_callB call_len_seq (by rfl) B.len (by decide +kernel) (pa_cons (pv 1) pa_nil)) pa_nil))) (fun _ _ => rfl))), ?_⟩
    obtain ⟨i, sd, rs, h, b1, b2, b3⟩ := W.row
    refine ⟨.ref l, rfl, .ref r, rfl, .ref l, rfl, l, xs, rfl, .inl (SqL.of hl), r, a, ns, i, sd, rs, xs.length, rfl, h, W.src, b1, b2, b3, l1, by omega, fun i' sd' rs' x c1 c2 c3 c4 => ?_⟩
    have g : L2.upd H r (.lst (rowV a i' sd' rs')) l = some (.lst xs) := by rw [upd_ne nl]; exact hl
    obtain ⟨v, hv⟩ : ∃ v, xs[x]? = some v := ⟨xs[x], List.getElem?_eq_getElem c4⟩
    exact ⟨l, xs, _, v, rfl, rfl, SqL.of g, atI_nat hv, q v (List.mem_of_getElem? hv) _ Kq.row (W.upd c1 c2 c3)⟩
end
end K01

set_option maxHeartbeats 4000000
namespace K01
open PySem PySem.Spec PyProof.Rows L2 Hd Evl
/-! ### is_life -/
def okL : Option (List (Bool × Nat)) → Bool
  | none => false
  | some l => (firstL l 0 0).isNone
section
variable {CX : CXT} {P : Program} {w : World} {K : PySem.W.Frag} {mg : Str → Option Value} {base : Heap} {CB CN CL : Addr}
def spIsLife (K : PySem.W.Frag) (Pm Ps : Addr) : Sp := fun vs H Q E => ∃ a n k d p c v o, vs = [.ref a, v] ∧ HouseAt H a n k d p c ∧ LifeV K H d p v o ∧ GxR.TabG H Pm ∧ GxR.TabG H Ps ∧ ∀ H2, Ks K H H2 → Q (.bl (okL o)) H2
theorem ok_is_life {f fC fS Pm Ps : Addr} {fd fdC fdS : FuncData} (F : FnP K "is_life" s_is_life f fd) (TC : Fn P w K mg base (L2.CX P w) 3 "check_house" ["house"] (spCheck K CB) fC fdC) (TS : Fn P w K mg base (L2.CX P w) 9 "check_life" ["house", "life"] (spLife K CL Pm Ps) fS fdS) (mS : mg "BadLife" = some (.ref CL))
    (x1 : PySem.W.exmOne K (.ref CL) (.ref CL) = some true) : FnOk P w K mg base (L2.CX P w) 10 f fd ["house", "value"] (spIsLife K Pm Ps) := by
  refine F.ok (CX := L2.CX P w) sc_is_life (fun vs H Q E h => ?_) (fun cdv A outer s H vs Q E hr h => ?_)
  · obtain ⟨a, n, k, d, p, c, v, o, rfl, _⟩ := h
    rfl
  · obtain ⟨a, n, k, d, p, c, v, o, rfl, h, hv, hT, hT2, q⟩ := h
    let X0 : Cx := cxOf (L2.CX P w) P w K mg base n_is_life "is_life" (defScope s_is_life) f cdv A outer s H E
    refine ⟨_, (pss_cons (ps_expr (pe_call TC.G (hr.mono (by decide)) (by rfl) TC.m TC.k TC.b .nil (passX (E := E) rfl rfl rfl rfl) (pa_cons (pv 0) pa_nil)))
      (pss_cons (ps_tries (X := X0) (tb := fun W D σ H => ∃ Ech : XK, (∀ cls d σ' H', Ech cls d H' → W cls d σ' H') ∧ tCall (spLife K CL Pm Ps) [] Ech (tCons (tVar 0) (tCons (tVar 1) tNil)) σ H fun _ H1 => D.nx σ H1) rfl rfl (takes_of (E := E) rfl rfl rfl rfl)
          (fun W pn xe tk _ => ⟨fun pins s' σ H' D I h' => ?_⟩) (Clauses.bare ⟨by rfl, by decide, .inl mS⟩ (fun a oe k d pn z _ => pss_one (ps_ret pe_bl)) .nil))
      (pss_one (ps_ret pe_bl)))), ?_⟩
    · obtain ⟨Ech, hW, h1⟩ := h'
      exact (pss_one (ps_expr (pe_call TS.G hr (by rfl) TS.m TS.k TS.b .nil (passes_call tk hW) (pa_cons (pv 0) (pa_cons (pv 1) pa_nil))))).run pins s' σ H' D I h1
    · refine ⟨.ref a, rfl, .ref a, none, rfl, h.wr, fun _ => ?_, (fun x e => by cases e)⟩
      refine ⟨fun cls _ H' => cls = .ref CL ∧ Q (.bl false) H', fun cls d' σ' H' he => ?_, .ref a, rfl, v, rfl, a, n, k, d, p, c, v, o, rfl, h, hv, hT, hT2, fun eo dd H' ks tg _ => ⟨rfl, ?_⟩, fun l eo => ⟨fun g H2 ks => ?_, fun i gi bi hi dd H' ks tg _ => ⟨rfl, ?_⟩⟩⟩
      · obtain ⟨rfl, hq⟩ := he
        exact ⟨true, x1, fun _ a _ => hq, fun z => by cases z⟩
      · rw [eo] at q
        exact q H' ks
      · rw [eo] at q
        have e : okL (some l) = true := by
          show (firstL l 0 0).isNone = true
          rw [first_none g] <;> rfl
        rw [e] at q
        exact q H2 ks
      · rw [eo] at q
        have e : okL (some l) = false := by
          show (firstL l 0 0).isNone = false
          rw [first_at ⟨gi, hi, bi⟩] <;> rfl
        rw [e] at q
        exact q H' ks
end
theorem wrongL_none {d p : Nat} {e : PyData} : wrongL d p e = none ↔ okL (lifeD d p e) = true := by
  unfold wrongL
  cases h : lifeD d p e with
  | none => exact ⟨fun z => (by cases z), fun z => (by cases z)⟩
  | some l =>
    show (firstL l 0 0).map some = none ↔ (firstL l 0 0).isNone = true
    cases firstL l 0 0 with
    | none => exact ⟨fun _ => rfl, fun _ => rfl⟩
    | some j => exact ⟨fun z => (by cases z), fun z => (by cases z)⟩
/-! ### the law's state -/
abbrev lawSt (i : Nat) : Stmt := (defBody s_law).getD i (.Pass ⟨0, 0, 0, 0⟩)
abbrev lawQ : Str := (envOfC "law" (defScope s_law) 0 0 (.ref 0)).qual ++ "<lambda>"
abbrev LX (P : Program) (w : World) (K : PySem.W.Frag) (mg : Str → Option Value) (base : Heap) (f c : Addr) (A : Around) (outer : List Env) (s : Shared) (H : Hp) (E : XK) : Cx := cxOf (L2.CX P w) P w K mg base n_law "law" (defScope s_law) f (.ref c) A outer s H E
abbrev LRoom (A : Around) (s : Shared) (f c : Addr) : Prop := Room 14 (A.deeper (envOfC "law" (defScope s_law) s.heap.objs.size f (.ref c)))
section
variable {σ : L2.St} {i j : Nat} {x : Option V} {v : V}
theorem gs (h : σ[j]? = some (some v)) (n : i ≠ j) : (σ.set i x)[j]? = some (some v) := by rw [List.getElem?_set_ne n]; exact h
theorem gn (l : σ.length = 20) (h : i < 20) : (σ.set i (some v))[i]? = some (some v) := by rw [List.getElem?_set_self (by omega)]
end
/-- the row, the house, the life -/
structure Bs (K : PySem.W.Frag) (tb : Tb) (Pa a : Addr) (ns : List Int) (r hs lf : Addr) (n k d p c : Nat) (L : LifeT) (σ : L2.St) (H : Hp) : Prop where
  len : σ.length = 20
  s1 : σ[1]? = some (some (.ref r))
  s2 : σ[2]? = some (some (.ref hs))
  s3 : σ[3]? = some (some (.ref lf))
  W : Rw K r a ns H
  T : Tbs tb Pa lawQ H
  hh : HouseAt H hs n k d p c
  n6 : n ≤ 6
  k4 : k ≤ 4
  d3 : d ≤ 3
  p3 : p ≤ 3
  tv : Tv H (.ref lf) (lifeP L)
  ok : OkLife d p 6 L
section
variable {K : PySem.W.Frag} {tb : Tb} {Pa a : Addr} {ns : List Int} {r hs lf : Addr} {n k d p c : Nat} {L : LifeT} {σ : L2.St} {H H1 : Hp} {i : Nat} {x : Option V} {S : Addr → Prop}
theorem Bs.set (b : Bs K tb Pa a ns r hs lf n k d p c L σ H) (h : 4 ≤ i) : Bs K tb Pa a ns r hs lf n k d p c L (σ.set i x) H :=
  { b with len := by rw [List.length_set]; exact b.len, s1 := gs b.s1 (by omega), s2 := gs b.s2 (by omega), s3 := gs b.s3 (by omega) }
theorem Bs.kq (b : Bs K tb Pa a ns r hs lf n k d p c L σ H) (e : Kq r H H1) (W : Rw K r a ns H1) : Bs K tb Pa a ns r hs lf n k d p c L σ H1 :=
  { b with W := W, T := b.T.kq b.W e, hh := b.hh.kq b.W e, tv := b.tv.mv (e.kt b.W) }
theorem Bs.ex (b : Bs K tb Pa a ns r hs lf n k d p c L σ H) (e : Ex H H1) : Bs K tb Pa a ns r hs lf n k d p c L σ H1 := b.kq (Kq.ex e) (b.W.ex e)
theorem Bs.kl (b : Bs K tb Pa a ns r hs lf n k d p c L σ H) (e : Kl S H H1) (l : LamX.TabS H1 Pa lawQ) : Bs K tb Pa a ns r hs lf n k d p c L σ H1 :=
  { b with W := b.W.kl e, T := b.T.kl e l, hh := b.hh.kw e.w, tv := b.tv.mv (fun _ _ h => e.t _ _ h) }
end
/-- what the law's run leans on -/
structure Lw (P : Program) (w : World) (K : PySem.W.Frag) (mg : Str → Option Value) (base : Heap) (cs : Cs) (tb : Tb) (Pa : Addr) : Type where
  B : Blt mg
  W : ToldD K mg cs
  na : ¬ Sk K Pa
  ft : Addr
  dt : FuncData
  tk : TakenF P w K mg base ft dt
  fp : Addr
  dp : FuncData
  pk : Fn P w K mg base CX0 2 "_law_pick" ["row", "things"] (spPick K) fp dp
  fh : Addr
  dh : FuncData
  hs : Fn P w K mg base CX0 2 "_law_house" ["row", "most"] (spHouse K) fh dh
  fl : Addr
  dl : FuncData
  lf : Fn P w K mg base CX0 3 "_law_life" ["row", "house", "moments"] (spLifeL K) fl dl
  f_co : Addr
  d_co : FuncData
  co : Fn P w K mg base CX0 2 "_law_coins" ["row", "house", "many"] (spCoinsL K) f_co d_co
  f_ln : Addr
  d_ln : FuncData
  ln : Fn P w K mg base CX0 1 "_law_length" ["life"] spLength f_ln d_ln
  f_se : Addr
  d_se : FuncData
  se : Fn P w K mg base CX0 1 "_law_sets" ["cells", "many"] spSets f_se d_se
  f_ul : Addr
  d_ul : FuncData
  ul : Fn P w K mg base CX0 1 "_law_upper" ["life", "drawer"] spUpL f_ul d_ul
  f_ws : Addr
  d_ws : FuncData
  ws : Fn P w K mg base CX0 2 "_law_wrong_story" ["house", "value", "deepest"] (spWrS K) f_ws d_ws
  f_wl : Addr
  d_wl : FuncData
  wl : Fn P w K mg base CX0 3 "_law_wrong_life" ["house", "value"] (spWrL K) f_wl d_wl
  f_al : Addr
  d_al : FuncData
  al : ∀ n, Fn P w K mg base CX0 n "_law_alike" ["found", "due"] (spAlike K n) f_al d_al
  f_iS : Addr
  d_iS : FuncData
  iS : Fn P w K mg base (L2.CX P w) 7 "is_story" ["house", "value"] (spIsStory K tb.m) f_iS d_iS
  f_iL : Addr
  d_iL : FuncData
  iL : Fn P w K mg base (L2.CX P w) 10 "is_life" ["house", "value"] (spIsLife K tb.m tb.s) f_iL d_iL
  f_wc : Addr
  d_wc : FuncData
  wc : Fn P w K mg base (L2.CX P w) 11 "waiting_counts" ["house", "way", "story", "drawer"] (sp_waiting_counts K cs tb) f_wc d_wc
  f_lo : Addr
  d_lo : FuncData
  lo : Fn P w K mg base (L2.CX P w) 11 "looks" ["house", "way", "life", "coins", "drawer"] (sp_looks K cs tb) f_lo d_lo
  f_up : Addr
  d_up : FuncData
  up : Fn P w K mg base (L2.CX P w) 11 "upper" ["house", "life", "drawer"] (sp_upper K cs tb) f_up d_up
  f_rc : Addr
  d_rc : FuncData
  rc : Fn P w K mg base (L2.CX P w) 11 "row_count" ["house", "life"] (sp_row_count K cs tb) f_rc d_rc
  f_aa : Addr
  d_aa : FuncData
  aa : Fn P w K mg base (L2.CX P w) 11 "alike_above" ["house", "one", "other", "drawer"] (sp_alike_above K cs tb) f_aa d_aa
section
variable {P : Program} {w : World} {K : PySem.W.Frag} {mg : Str → Option Value} {base : Heap} {cs : Cs} {tb : Tb} {f c Pa a : Addr} {ns : List Int} {A : Around} {outer : List Env} {s : Shared} {H0 : Hp} {E0 : XK}
def At0 (K : PySem.W.Frag) (tb : Tb) (Pa a : Addr) (ns : List Int) (σ : L2.St) (H : Hp) : Prop := σ = some (.ref a) :: List.replicate 19 none ∧ SqL K H a (ns.map V.int) ∧ Tbs tb Pa lawQ H
def At1 (K : PySem.W.Frag) (tb : Tb) (Pa a : Addr) (ns : List Int) (σ : L2.St) (H : Hp) : Prop := ∃ r, σ.length = 20 ∧ σ[1]? = some (some (.ref r)) ∧ Rw K r a ns H ∧ Tbs tb Pa lawQ H
def At2 (K : PySem.W.Frag) (tb : Tb) (Pa a : Addr) (ns : List Int) (σ : L2.St) (H : Hp) : Prop := ∃ r hs n k d p c, σ.length = 20 ∧ σ[1]? = some (some (.ref r)) ∧ σ[2]? = some (some (.ref hs)) ∧ Rw K r a ns H ∧ Tbs tb Pa lawQ H ∧ HouseAt H hs n k d p c ∧ n ≤ 6 ∧ k ≤ 4 ∧ d ≤ 3 ∧ p ≤ 3
/-- behind the life: what else holds -/
def AtA (K : PySem.W.Frag) (tb : Tb) (Pa a : Addr) (ns : List Int) (F : Addr → Nat → Nat → Nat → Nat → LifeT → L2.St → Hp → Prop) (σ : L2.St) (H : Hp) : Prop := ∃ r hs lf n k d p c L, Bs K tb Pa a ns r hs lf n k d p c L σ H ∧ F r n k d p L σ H
theorem st0 : Does (LX P w K mg base f c A outer s H0 E0) (lawSt 0) (At0 K tb Pa a ns) (At1 K tb Pa a ns) := by
  refine ⟨_, ps_set (i := 1) sc_law.nd rfl (Or.inl rfl) (pe_lst (pa_cons (pv 0) (pa_cons pe_int (pa_cons pe_int (pa_cons pe_int pa_nil))))), fun D σ H pre post => ?_⟩
  obtain ⟨rfl, ha, hT⟩ := pre
  refine ⟨.ref a, rfl, by show 4 ≤ sizeLine; decide, fun l nl => post _ _ ⟨l, rfl, rfl, ⟨⟨0, 18001, 0, upd_same, by decide, by decide, by decide⟩, ?_⟩, ?_⟩⟩
  · exact (Src.new ha nl).ex (Ex.new nl)
  · have e := Ex.new (o := HO.lst [V.ref a, V.int 0, V.int 18001, V.int 0]) nl
    exact ⟨tab_ex hT.m e, tab_ex hT.s e, tab_ex hT.n e, tab_ex hT.u e, tab_ex hT.a e, hT.l.ext e⟩
theorem st1 (L : Lw P w K mg base cs tb Pa) (hr : LRoom A s f c) : Does (LX P w K mg base f c A outer s H0 E0) (lawSt 1) (At1 K tb Pa a ns) (At2 K tb Pa a ns) := by
  refine ⟨_, ps_set (i := 2) sc_law.nd rfl (Or.inr rfl) (pe_call L.hs.G (hr.mono (by decide)) (by rfl) L.hs.m L.hs.k L.hs.b .nil pass0 (pa_cons (pv 1) (pa_cons pe_int pa_nil))), fun D σ H pre post => ?_⟩
  obtain ⟨r, len, s1, W, T⟩ := pre
  refine ⟨.ref r, s1, r, a, ns, 6, rfl, W, by decide, by decide, fun n k d p c hs H' hh b1 b2 b3 b4 b5 kq W' => post _ _ ⟨r, hs, n, k, d, p, c, by rw [List.length_set]; exact len, gs s1 (by decide), gn len (by decide), W', T.kq W kq, hh, b1, b2, b3, b4⟩⟩
theorem st2 (L : Lw P w K mg base cs tb Pa) (hr : LRoom A s f c) : Does (LX P w K mg base f c A outer s H0 E0) (lawSt 2) (At2 K tb Pa a ns) (AtA K tb Pa a ns fun _ _ _ _ _ _ _ _ => True) := by
  refine ⟨_, ps_set (i := 3) sc_law.nd rfl (Or.inr rfl) (pe_call L.lf.G (hr.mono (by decide)) (by rfl) L.lf.m L.lf.k L.lf.b .nil pass0 (pa_cons (pv 1) (pa_cons (pv 2) (pa_cons pe_int pa_nil)))), fun D σ H pre post => ?_⟩
  obtain ⟨r, hs, n, k, d, p, c, len, s1, s2, W, T, hh, b1, b2, b3, b4⟩ := pre
  refine ⟨.ref r, s1, .ref hs, s2, r, a, hs, ns, n, k, d, p, c, 6, rfl, W, hh, by decide, fun t Lf H' tv ok kq W' => post _ _ ⟨r, hs, t, n, k, d, p, c, Lf, ⟨by rw [List.length_set]; exact len, gs s1 (by decide), gs s2 (by decide), gn len (by decide), W', T.kq W kq, hh.kq W kq, b1, b2, b3, b4, tv, ok⟩, True.intro⟩⟩
/-- the story, a deed -/
structure SD (d p : Nat) (L : LifeT) (σ : L2.St) (H : Hp) : Prop where
  st : ∃ su s, σ[4]? = some (some (.ref su)) ∧ Tv H (.ref su) (storyP s.2) ∧ s ∈ L
def DeedAt (d p : Nat) (σ : L2.St) (H : Hp) : Prop := ∃ t, σ[5]? = some (some (.ref t)) ∧ H t = some (.tup [.int ((d : Int) - 1), .int ((p : Int) - 1), .int 9])
theorem st3 : Does (LX P w K mg base f c A outer s H0 E0) (lawSt 3) (AtA K tb Pa a ns fun _ _ _ _ _ _ _ _ => True) (AtA K tb Pa a ns fun _ _ _ d p L σ H => SD d p L σ H) := by
  refine ⟨_, ps_set (i := 4) sc_law.nd rfl (Or.inl rfl) (pe_ix ix_tup (pe_ix ix_tup (pv 3) pe_int (fun _ _ => rfl)) pe_int (fun _ _ => rfl)), fun D σ H pre post => ?_⟩
  obtain ⟨r, hs, lf, n, k, d, p, c, L, b, _⟩ := pre
  obtain ⟨ss, hl, all⟩ := tv_ref b.tv
  have l1 : 1 ≤ ss.length := by rw [all.len, List.length_map]; exact b.ok.one
  have h0 : ss[0]? = some ss[0] := List.getElem?_eq_getElem (by omega)
  obtain ⟨x, hx, tvx⟩ := tv_at all h0
  obtain ⟨t, u, us, e0, h1, h2, h3⟩ := tv_sess tvx
  rw [e0] at h0
  refine ⟨.ref lf, b.s3, lf, ss, _, .ref t, rfl, rfl, SqT.of hl, atI_nat (j := 0) h0, t, _, _, .ref u, rfl, rfl, SqT.of h1, atI_nat (j := 1) rfl, post _ _ ⟨r, hs, lf, n, k, d, p, c, L, b.set (by decide), ⟨u, x, gn b.len (by decide), .tup h2 h3, List.mem_of_getElem? hx⟩⟩⟩
theorem SD.set {d p : Nat} {L : LifeT} {σ : L2.St} {H : Hp} {i : Nat} {x : Option V} (h : SD d p L σ H) (n : i ≠ 4) : SD d p L (σ.set i x) H := let ⟨su, s, h1, h2⟩ := h.st; ⟨su, s, gs h1 n, h2⟩
theorem SD.kt {d p : Nat} {L : LifeT} {σ : L2.St} {H H1 : Hp} (h : SD d p L σ H) (k : Kt H H1) : SD d p L σ H1 := let ⟨su, s, h1, h2, h3⟩ := h.st; ⟨su, s, h1, h2.mv k, h3⟩
theorem st4 : Does (LX P w K mg base f c A outer s H0 E0) (lawSt 4) (AtA K tb Pa a ns fun _ _ _ d p L σ H => SD d p L σ H) (AtA K tb Pa a ns fun _ _ _ d p L σ H => SD d p L σ H ∧ DeedAt d p σ H) := by
  refine ⟨_, ps_set (i := 5) sc_law.nd rfl (Or.inl rfl) (pe_tup (pa_cons (pe_op op_sub (pe_ix ix_tup (pv 2) pe_int (fun _ _ => rfl)) pe_int) (pa_cons (pe_op op_sub (pe_ix ix_tup (pv 2) pe_int (fun _ _ => rfl)) pe_int) (pa_cons pe_int pa_nil)))), fun D σ H pre post => ?_⟩
  obtain ⟨r, hs, lf, n, k, d, p, c, L, b, sd⟩ := pre
  refine ⟨.ref hs, b.s2, hs, _, _, .int d, rfl, rfl, SqT.of b.hh.at_, atI_nat (j := 2) rfl, _, _, rfl, rfl, .ref hs, b.s2, hs, _, _, .int p, rfl, rfl, SqT.of b.hh.at_, atI_nat (j := 3) rfl, _, _, rfl, rfl, by show 3 ≤ sizeLine; decide, fun t nt => ?_⟩
  have e := Ex.new (o := HO.tup [V.int ((d : Int) - 1), V.int ((p : Int) - 1), V.int 9]) nt
  exact post _ _ ⟨r, hs, lf, n, k, d, p, c, L, (b.ex e).set (by decide), (sd.kt (Kt.ex e)).set (by decide), t, gn b.len (by decide), upd_same⟩
end
end K01

set_option maxHeartbeats 4000000
namespace K01
open PySem PySem.Spec PyProof.Rows L2 Hd Evl
/-! ### values that can be told as data -/
structure Fv (m : Nat) (r : Addr) (H : Hp) (v : V) : Prop where
  go : ∃ e, Dv r H v e ∧ PyData.canLay0 e = true ∧ PyData.depth e ≤ m
section
variable {m m' : Nat} {r p : Addr} {H H1 : Hp} {v : V} {xs : List V}
theorem Fv.mono (h : Fv m r H v) (l : m ≤ m') : Fv m' r H v := let ⟨e, a, b, c⟩ := h.go; ⟨e, a, b, by omega⟩
theorem Fv.kr (h : Fv m r H v) (k : Kr r H H1) (hr : ∃ ys, H r = some (.lst ys)) : Fv m r H1 v := let ⟨e, a, b, c⟩ := h.go; ⟨e, Hd.Dv.kr k (lst_nt hr) e v a, b, c⟩
theorem Fv.fine (h : Fv m r H v) (l : m ≤ 60) : ∃ e, Dv r H v e ∧ FineD e := let ⟨e, a, b, c⟩ := h.go; ⟨e, a, b, by omega⟩
theorem Fv.non : Fv 1 r H .non := ⟨_, .non, by simp [PyData.canLay0], by simp [PyData.depth]⟩
theorem Fv.int (i : Int) : Fv 1 r H (.int i) := ⟨_, .int i, by simp [PyData.canLay0], by simp [PyData.depth]⟩
theorem Fv.bl (b : Bool) : Fv 1 r H (.bl b) := ⟨_, .bl b, by simp [PyData.canLay0], by simp [PyData.depth]⟩
theorem Fv.all (h : ∀ x ∈ xs, Fv m r H x) : ∃ ds, DvAll r H xs ds ∧ PyData.canLayAll0 ds = true ∧ PyData.depthAll ds ≤ m := by
  induction xs with
  | nil => exact ⟨[], .nil, by simp [PyData.canLayAll0], by simp [PyData.depthAll]⟩
  | cons x xs ih =>
    obtain ⟨ds, a, b, c⟩ := ih fun y hy => h y (List.mem_cons_of_mem _ hy)
    obtain ⟨e, a1, b1, c1⟩ := (h x List.mem_cons_self).go
    exact ⟨e :: ds, .cons a1 a, by simp [PyData.canLayAll0, b, b1], by simp only [PyData.depthAll]; omega⟩
theorem Fv.tup (g : H p = some (.tup xs)) (h : ∀ x ∈ xs, Fv m r H x) : Fv (m + 1) r H (.ref p) := by
  obtain ⟨ds, a, b, c⟩ := Fv.all h
  exact ⟨.tuple ds, .tup g a, by simpa [PyData.canLay0] using b, by simp only [PyData.depth]; omega⟩
theorem Fv.lst (n : p ≠ r) (g : H p = some (.lst xs)) (h : ∀ x ∈ xs, Fv m r H x) : Fv (m + 1) r H (.ref p) := by
  obtain ⟨ds, a, b, c⟩ := Fv.all h
  exact ⟨.list ds, .lst n g a, by simpa [PyData.canLay0] using b, by simp only [PyData.depth]; omega⟩
theorem Fv.tvAll {ds : List PyData} (h : TvAll H xs ds) (g : ∀ d ∈ ds, ∀ v, Tv H v d → Fv m r H v) : ∀ x ∈ xs, Fv m r H x := fun x hx => by
  obtain ⟨i, hi⟩ := List.mem_iff_getElem?.mp hx
  obtain ⟨d, a, b⟩ := h.at_ hi
  exact g d (List.mem_of_getElem? a) x b
theorem fv_deed {x : DeedT} (h : Tv H v (deedP x)) : Fv 2 r H v := by
  obtain ⟨t, rfl, g⟩ := tv_deed h
  refine .tup g fun y hy => ?_
  simp only [List.mem_cons, List.mem_nil_iff, or_false] at hy
  rcases hy with rfl | rfl | rfl <;> exact .int _
theorem fv_mom {x : MomT} (h : Tv H v (momP x)) : Fv 3 r H v := by
  obtain ⟨t, xs, rfl, g, all⟩ := tv_tup h
  refine .tup g (Fv.tvAll all fun d hd v hv => ?_)
  obtain ⟨y, _, rfl⟩ := List.mem_map.mp hd
  exact fv_deed hv
theorem fv_story {x : StoryT} (h : Tv H v (storyP x)) : Fv 4 r H v := by
  obtain ⟨t, xs, rfl, g, all⟩ := tv_tup h
  refine .tup g (Fv.tvAll all fun d hd v hv => ?_)
  obtain ⟨y, _, rfl⟩ := List.mem_map.mp hd
  exact fv_mom hv
theorem fv_sess {x : Nat × StoryT} (h : Tv H v (sessP x)) : Fv 5 r H v := by
  obtain ⟨t, u, us, rfl, g, h2, h3⟩ := tv_sess h
  refine .tup g fun y hy => ?_
  simp only [List.mem_cons, List.mem_nil_iff, or_false] at hy
  rcases hy with rfl | rfl
  · exact (Fv.int _).mono (by decide)
  · exact fv_story (.tup h2 h3)
theorem fv_life {x : LifeT} (h : Tv H v (lifeP x)) : Fv 6 r H v := by
  obtain ⟨t, xs, rfl, g, all⟩ := tv_tup h
  refine .tup g (Fv.tvAll all fun d hd v hv => ?_)
  obtain ⟨y, _, rfl⟩ := List.mem_map.mp hd
  exact fv_sess hv
/-- the elements of a tuple of known data -/
theorem fv_items {x : LifeT} {t : Addr} (h : Tv H (.ref t) (lifeP x)) : ∃ xs, H t = some (.tup xs) ∧ xs.length = x.length ∧ ∀ y ∈ xs, Fv 5 r H y := by
  obtain ⟨xs, g, all⟩ := tv_ref h
  refine ⟨xs, g, by rw [all.len, List.length_map], Fv.tvAll all fun d hd v hv => ?_⟩
  obtain ⟨y, _, rfl⟩ := List.mem_map.mp hd
  exact fv_sess hv
theorem fv_moms {x : StoryT} {t : Addr} (h : Tv H (.ref t) (storyP x)) : ∃ xs, H t = some (.tup xs) ∧ xs.length = x.length ∧ ∀ y ∈ xs, Fv 3 r H y := by
  obtain ⟨xs, g, all⟩ := tv_ref h
  refine ⟨xs, g, by rw [all.len, List.length_map], Fv.tvAll all fun d hd v hv => ?_⟩
  obtain ⟨y, _, rfl⟩ := List.mem_map.mp hd
  exact fv_mom hv
end
theorem times_q {K : PySem.W.Frag} {H : Hp} {l : Addr} {v : V} {m : Nat} {z : Int} {Q : VK} (h : H l = some (.tup [v])) (e : z = (m : Int)) (h1 : 1 ≤ m) (h2 : m ≤ 100) (q : ∀ p H', Ex H H' → H' p = some (.tup (List.replicate m v)) → Q (.ref p) H') : rTimes K (.ref l) (.int z) H Q := by
  subst e
  refine ⟨l, m, [v], rfl, rfl, SqT.of h, by simp, by omega, by omega, (by show 1 ≤ 1000; decide), fun e => q l H (Ex.refl H) ?_, fun _ p np => q p _ (Ex.new np) ?_⟩
  · rw [show m = 1 by omega]
    exact h
  · rw [upd_same, Int.toNat_natCast, List.flatten_replicate_singleton]
theorem fv_rep {m k : Nat} {r : Addr} {H : Hp} {v : V} (h : Fv m r H v) : ∀ x ∈ List.replicate k v, Fv m r H x := fun x hx => by rw [(List.mem_replicate.mp hx).2]; exact h
/-- a list at slot i of values -/
def FvL (i m : Nat) (r : Addr) (σ : L2.St) (H : Hp) : Prop := ∃ l xs, σ[i]? = some (some (.ref l)) ∧ H l = some (.lst xs) ∧ l ≠ r ∧ 1 ≤ xs.length ∧ xs.length ≤ 1000 ∧ ∀ x ∈ xs, Fv m r H x
section
variable {P : Program} {w : World} {K : PySem.W.Frag} {mg : Str → Option Value} {base : Heap} {cs : Cs} {tb : Tb} {f c Pa a : Addr} {ns : List Int} {A : Around} {outer : List Env} {s : Shared} {H0 : Hp} {E0 : XK}
theorem FvL.set {i m j : Nat} {r : Addr} {σ : L2.St} {H : Hp} {x : Option V} (h : FvL i m r σ H) (n : j ≠ i) : FvL i m r (σ.set j x) H := let ⟨l, xs, h1, h2⟩ := h; ⟨l, xs, gs h1 n, h2⟩
theorem FvL.kr {i m : Nat} {r : Addr} {σ : L2.St} {H H1 : Hp} (h : FvL i m r σ H) (k : Kr r H H1) (hr : ∃ ys, H r = some (.lst ys)) : FvL i m r σ H1 := let ⟨l, xs, h1, h2, h3, h4, h5, h6⟩ := h; ⟨l, xs, h1, k _ _ h3 (fun ps z => by cases z) h2, h3, h4, h5, fun x hx => (h6 x hx).kr k hr⟩
theorem DeedAt.set {d p j : Nat} {σ : L2.St} {H : Hp} {x : Option V} (h : DeedAt d p σ H) (n : j ≠ 5) : DeedAt d p (σ.set j x) H := let ⟨t, h1, h2⟩ := h; ⟨t, gs h1 n, h2⟩
theorem DeedAt.kt {d p : Nat} {σ : L2.St} {H H1 : Hp} (h : DeedAt d p σ H) (k : Kt H H1) : DeedAt d p σ H1 := let ⟨t, h1, h2⟩ := h; ⟨t, h1, k _ _ h2⟩
theorem ints3 {m : Nat} {r t : Addr} {H : Hp} {x y z : Int} (h : H t = some (.tup [V.int x, V.int y, V.int z])) : Fv 2 r H (.ref t) := .tup h fun y hy => by
  simp only [List.mem_cons, List.mem_nil_iff, or_false] at hy
  rcases hy with rfl | rfl | rfl <;> exact .int _
theorem st5 : Does (LX P w K mg base f c A outer s H0 E0) (lawSt 5) (AtA K tb Pa a ns fun _ _ _ d p L σ H => SD d p L σ H ∧ DeedAt d p σ H) (AtA K tb Pa a ns fun r _ _ d p L σ H => SD d p L σ H ∧ DeedAt d p σ H ∧ FvL 6 3 r σ H) := by
  refine ⟨_, ps_set (i := 6) sc_law.nd rfl (Or.inl rfl) (pe_lst (pa_cons (pe_tup (pa_cons (pe_op op_add (pe_ix ix_tup (pv 5) pe_int (fun _ _ => rfl)) pe_int) (pa_cons pe_int (pa_cons pe_int pa_nil)))) (pa_cons (pe_tup (pa_cons pe_int (pa_cons (pe_ix ix_tup (pv 2) pe_int (fun _ _ => rfl)) (pa_cons pe_int pa_nil)))) (pa_cons (pe_tup (pa_cons pe_int (pa_cons pe_int (pa_cons pe_int pa_nil)))) (pa_cons (pe_tup (pa_cons pe_int (pa_cons pe_int (pa_cons (pe_op op_sub pe_int pe_int) pa_nil)))) (pa_cons (pe_tup (pa_cons pe_bl (pa_cons pe_int (pa_cons pe_int pa_nil)))) (pa_cons (pe_tup (pa_cons pe_int (pa_cons pe_int pa_nil))) (pa_cons (pe_lst (pa_cons pe_int (pa_cons pe_int (pa_cons pe_int pa_nil)))) (pa_cons pe_non pa_nil))))))))), fun D σ H pre post => ?_⟩
  obtain ⟨r, hs, lf, n, k, d, p, c, L, b, sd, td, hd5, hd⟩ := pre
  refine ⟨.ref td, hd5, td, _, _, .int ((d : Int) - 1), rfl, rfl, SqT.of hd, atI_nat (j := 0) rfl, _, _, rfl, rfl, by show 3 ≤ sizeLine; decide, fun t1 n1 => ?_⟩
  have e1 := Ex.new (o := HO.tup [V.int ((d : Int) - 1 + 1), V.int 0, V.int 0]) n1
  refine ⟨.ref hs, b.s2, hs, _, _, .int p, rfl, rfl, SqT.of (e1 _ _ b.hh.at_), atI_nat (j := 3) rfl, by show 3 ≤ sizeLine; decide, fun t2 n2 => ?_⟩
  have e2 := Ex.new (o := HO.tup [V.int 0, V.int p, V.int 0]) n2
  refine ⟨by show 3 ≤ sizeLine; decide, fun t3 n3 => ?_⟩
  have e3 := Ex.new (o := HO.tup [V.int 0, V.int 0, V.int 10]) n3
  refine ⟨_, _, rfl, rfl, by show 3 ≤ sizeLine; decide, fun t4 n4 => ?_⟩
  have e4 := Ex.new (o := HO.tup [V.int 0, V.int 0, V.int (0 - 1)]) n4
  refine ⟨by show 3 ≤ sizeLine; decide, fun t5 n5 => ?_⟩
  have e5 := Ex.new (o := HO.tup [V.bl true, V.int 0, V.int 0]) n5
  refine ⟨by show 2 ≤ sizeLine; decide, fun t6 n6 => ?_⟩
  have e6 := Ex.new (o := HO.tup [V.int 0, V.int 0]) n6
  refine ⟨by show 3 ≤ sizeLine; decide, fun t7 n7 => ?_⟩
  have e7 := Ex.new (o := HO.lst [V.int 0, V.int 0, V.int 0]) n7
  refine ⟨by show 8 ≤ sizeLine; decide, fun t8 n8 => ?_⟩
  have e8 := Ex.new (o := HO.lst [V.ref t1, V.ref t2, V.ref t3, V.ref t4, V.ref t5, V.ref t6, V.ref t7, V.non]) n8
  have f7 := e7.trans e8
  have f6 := e6.trans f7
  have f5 := e5.trans f6
  have f4 := e4.trans f5
  have f3 := e3.trans f4
  have f2 := e2.trans f3
  have eN := e1.trans f2
  have n8r : t8 ≠ r := (b.W.ex (e1.trans (e2.trans (e3.trans (e4.trans (e5.trans (e6.trans e7))))))).ne n8
  have n7r : t7 ≠ r := (b.W.ex (e1.trans (e2.trans (e3.trans (e4.trans (e5.trans e6)))))).ne n7
  refine post _ _ ⟨r, hs, lf, n, k, d, p, c, L, (b.ex eN).set (by decide), (sd.kt (Kt.ex eN)).set (by decide), (DeedAt.kt ⟨td, hd5, hd⟩ (Kt.ex eN)).set (by decide), t8, _, gn b.len (by decide), upd_same, n8r, by show 1 ≤ 8; decide, by show 8 ≤ 1000; decide, fun x hx => ?_⟩
  simp only [List.mem_cons, List.mem_nil_iff, or_false] at hx
  rcases hx with rfl | rfl | rfl | rfl | rfl | rfl | rfl | rfl
  · exact (ints3 (m := 0) (f2 _ _ upd_same)).mono (by decide)
  · exact (ints3 (m := 0) (f3 _ _ upd_same)).mono (by decide)
  · exact (ints3 (m := 0) (f4 _ _ upd_same)).mono (by decide)
  · exact (ints3 (m := 0) (f5 _ _ upd_same)).mono (by decide)
  · refine (Fv.tup (m := 1) (f6 _ _ upd_same) fun y hy => ?_).mono (by decide)
    simp only [List.mem_cons, List.mem_nil_iff, or_false] at hy
    rcases hy with rfl | rfl | rfl
    · exact .bl _
    · exact .int _
    · exact .int _
  · refine (Fv.tup (m := 1) (f7 _ _ upd_same) fun y hy => ?_).mono (by decide)
    simp only [List.mem_cons, List.mem_nil_iff, or_false] at hy
    rcases hy with rfl | rfl <;> exact .int _
  · refine (Fv.lst (m := 1) n7r (e8 _ _ upd_same) fun y hy => ?_).mono (by decide)
    simp only [List.mem_cons, List.mem_nil_iff, or_false] at hy
    rcases hy with rfl | rfl | rfl <;> exact .int _
  · exact Fv.non.mono (by decide)
/-- a place in a tuple -/
def IntAt (i : Nat) (σ : L2.St) (v : Nat) : Prop := σ[i]? = some (some (iV v))
theorem len_le : ∀ {L : LifeT} {s : Nat × StoryT}, s ∈ L → s.2.length ≤ lenT L
  | x :: r, s, h => by
    have e : lenT (x :: r) = x.2.length + lenT r := by simp [lenT]
    rw [e]
    rcases List.mem_cons.mp h with rfl | z
    · omega
    · have := len_le z
      omega
theorem IntAt.set {i j v : Nat} {σ : L2.St} {x : Option V} (h : IntAt i σ v) (n : j ≠ i) : IntAt i (σ.set j x) v := gs h n
theorem st6 (L : Lw P w K mg base cs tb Pa) (hr : LRoom A s f c) : Does (LX P w K mg base f c A outer s H0 E0) (lawSt 6) (AtA K tb Pa a ns fun r _ _ d p L σ H => SD d p L σ H ∧ DeedAt d p σ H ∧ FvL 6 3 r σ H) (AtA K tb Pa a ns fun r _ _ d p L σ H => SD d p L σ H ∧ DeedAt d p σ H ∧ FvL 6 3 r σ H ∧ ∃ j, IntAt 7 σ j) := by
  refine ⟨_, ps_set (i := 7) sc_law.nd rfl (Or.inl rfl) (pe_call L.tk.G (hr.mono (by decide)) (by rfl) L.tk.m L.tk.k L.tk.b .nil pass0 (pa_cons (pv 1) (pa_cons (pe_op op_add (pe_callB call_len_seq (by rfl) L.B.len (by decide +kernel) (pa_cons (pv 4) pa_nil)) pe_int) pa_nil))), fun D σ H pre post => ?_⟩
  obtain ⟨r, hs, lf, n, k, d, p, c, Lf, b, sd, dd, fl⟩ := pre
  obtain ⟨su, sx, s4, tvs, mem⟩ := sd.st
  obtain ⟨us, gu, ul, _⟩ := fv_moms (r := r) tvs
  have l6 := len_le mem
  have l7 := b.ok.len
  refine ⟨.ref r, b.s1, .ref su, s4, su, us, rfl, .inr (SqT.of gu), _, _, rfl, rfl, taken_of (m := us.length + 1) b.W (by push_cast; rfl) (by omega) (by omega) fun x H' lx kq W' => post _ _ ⟨r, hs, lf, n, k, d, p, c, Lf, (b.kq kq W').set (by decide), (sd.kt (kq.kt b.W)).set (by decide), (dd.kt (kq.kt b.W)).set (by decide), (fl.kr kq.kr b.W.lst).set (by decide), x, gn b.len (by decide)⟩⟩
theorem st7 (L : Lw P w K mg base cs tb Pa) (hr : LRoom A s f c) : Does (LX P w K mg base f c A outer s H0 E0) (lawSt 7) (AtA K tb Pa a ns fun r _ _ d p L σ H => SD d p L σ H ∧ DeedAt d p σ H ∧ FvL 6 3 r σ H ∧ ∃ j, IntAt 7 σ j) (AtA K tb Pa a ns fun r _ _ d p L σ H => SD d p L σ H ∧ DeedAt d p σ H ∧ FvL 8 4 r σ H ∧ ∃ j, IntAt 7 σ j) := by
  refine ⟨_, ps_set (i := 8) sc_law.nd rfl (Or.inl rfl) (pe_lst (pa_cons (pe_tup (pa_cons (pv 5) pa_nil)) (pa_cons (pe_op op_times (pe_tup (pa_cons (pv 5) pa_nil)) pe_int) (pa_cons (pe_op op_times (pe_tup (pa_cons (pv 5) pa_nil)) pe_int) (pa_cons (pe_lst (pa_cons (pv 5) pa_nil)) (pa_cons pe_non (pa_cons (pe_tup (pa_cons (pe_call L.pk.G (hr.mono (by decide)) (by rfl) L.pk.m L.pk.k L.pk.b .nil pass0 (pa_cons (pv 1) (pa_cons (pv 6) pa_nil))) pa_nil)) (pa_cons (pe_tup (pa_cons (pv 5) (pa_cons (pe_call L.pk.G (hr.mono (by decide)) (by rfl) L.pk.m L.pk.k L.pk.b .nil pass0 (pa_cons (pv 1) (pa_cons (pv 6) pa_nil))) pa_nil))) (pa_cons (pe_tup pa_nil) pa_nil))))))))), fun D σ H pre post => ?_⟩
  obtain ⟨r, hs, lf, n, k, d, p, c, Lf, b, sd, dd, fl, j, hj⟩ := pre
  obtain ⟨td, hd5, hd⟩ := id dd
  have fd : ∀ {G : Hp}, G td = some (.tup [V.int ((d : Int) - 1), V.int ((p : Int) - 1), V.int 9]) → Fv 2 r G (.ref td) := fun g => ints3 (m := 0) g
  refine ⟨.ref td, hd5, by show 1 ≤ sizeLine; decide, fun t1 n1 => ?_⟩
  have e1 := Ex.new (o := HO.tup [V.ref td]) n1
  refine ⟨.ref td, hd5, by show 1 ≤ sizeLine; decide, fun t2 n2 => ?_⟩
  have e2 := Ex.new (o := HO.tup [V.ref td]) n2
  refine times_q (m := 7) upd_same rfl (by decide) (by decide) fun t3 G3 e3 g3 => ?_
  refine ⟨.ref td, hd5, by show 1 ≤ sizeLine; decide, fun t4 n4 => ?_⟩
  have e4 := Ex.new (o := HO.tup [V.ref td]) n4
  refine times_q (m := 6) upd_same rfl (by decide) (by decide) fun t5 G5 e5 g5 => ?_
  refine ⟨.ref td, hd5, by show 1 ≤ sizeLine; decide, fun t6 n6 => ?_⟩
  have e6 := Ex.new (o := HO.lst [V.ref td]) n6
  have c5 := e1.trans (e2.trans (e3.trans (e4.trans e5)))
  have n6r : t6 ≠ r := (b.W.ex c5).ne n6
  have c6 := c5.trans e6
  have b6 := b.ex c6
  obtain ⟨l6, x6, s6, g6, n66, m1, m2, m3⟩ := fl.kr (Kr.ex c6) b.W.lst
  refine ⟨.ref r, b.s1, .ref l6, s6, r, a, l6, ns, x6, rfl, b6.W, g6, n66, m1, m2, fun v7 hv7 H7 kq7 W7 => ?_⟩
  have f7 := (m3 v7 hv7).kr kq7.kr b6.W.lst
  refine ⟨by show 1 ≤ sizeLine; decide, fun t8 n8 => ?_⟩
  have e8 := Ex.new (o := HO.tup [v7]) n8
  have b8 := (b6.kq kq7 W7).ex e8
  have k8 : Kq r _ _ := kq7.trans (Kq.ex e8)
  have fl8 : FvL 6 3 r σ _ := FvL.kr ⟨l6, x6, s6, g6, n66, m1, m2, m3⟩ k8.kr b6.W.lst
  obtain ⟨l9, x9, s9, g9, n99, m1', m2', m3'⟩ := fl8
  refine ⟨.ref td, hd5, .ref r, b.s1, .ref l9, s9, r, a, l9, ns, x9, rfl, b8.W, g9, n99, m1', m2', fun v9 hv9 H9 kq9 W9 => ?_⟩
  have f9 := (m3' v9 hv9).kr kq9.kr b8.W.lst
  refine ⟨by show 2 ≤ sizeLine; decide, fun t10 n10 => ?_⟩
  have e10 := Ex.new (o := HO.tup [V.ref td, v9]) n10
  refine ⟨by show 0 ≤ sizeLine; decide, fun t11 n11 => ?_⟩
  have e11 := Ex.new (o := HO.tup []) n11
  refine ⟨by show 8 ≤ sizeLine; decide, fun t12 n12 => ?_⟩
  have e12 := Ex.new (o := HO.lst [V.ref t1, V.ref t3, V.ref t5, V.ref t6, V.non, V.ref t8, V.ref t10, V.ref t11]) n12
  have x11 := e11.trans e12
  have x10 := e10.trans x11
  have b9 := b8.kq kq9 W9
  have k9 : Kq r _ _ := kq9.trans (Kq.ex x10)
  have kk8 : Kq r _ _ := (Kq.ex e8).trans k9
  have k6 : Kq r _ _ := kq7.trans kk8
  have kA : Kq r H _ := (Kq.ex c6).trans k6
  have bA := b9.ex x10
  have ktA := kA.kt b.W
  have gd := ktA _ _ hd
  have tup_of : ∀ {t : Addr} {G G' : Hp} {xs : List V}, (G t = some (.tup xs)) → Rw K r a ns G → Kq r G G' → G' t = some (.tup xs) := fun g W k => k.kt W _ _ g
  have n12r : t12 ≠ r := (b9.W.ex (e10.trans e11)).ne n12
  refine post _ _ ⟨r, hs, lf, n, k, d, p, c, Lf, bA.set (by decide), (sd.kt ktA).set (by decide), (dd.kt ktA).set (by decide), ⟨t12, _, gn b.len (by decide), upd_same, n12r, by show 1 ≤ 8; decide, by show 8 ≤ 1000; decide, fun x hx => ?_⟩, j, hj.set (by decide)⟩
  have one : ∀ {t : Addr} {G : Hp}, G t = some (.tup [V.ref td]) → G td = some (.tup [V.int ((d : Int) - 1), V.int ((p : Int) - 1), V.int 9]) → Fv 4 r G (.ref t) := fun g g' => (Fv.tup (m := 2) g fun y hy => by
    simp only [List.mem_cons, List.mem_nil_iff, or_false] at hy
    subst hy
    exact fd g').mono (by decide)
  simp only [List.mem_cons, List.mem_nil_iff, or_false] at hx
  rcases hx with rfl | rfl | rfl | rfl | rfl | rfl | rfl | rfl
  · exact one (tup_of (upd_same (H := H)) (b.W.ex e1) ((Kq.ex (e2.trans (e3.trans (e4.trans (e5.trans e6))))).trans k6)) gd
  · exact (Fv.tup (m := 2) (tup_of g3 (b.W.ex (e1.trans (e2.trans e3))) ((Kq.ex (e4.trans (e5.trans e6))).trans k6)) (fv_rep (fd gd))).mono (by decide)
  · exact (Fv.tup (m := 2) (tup_of g5 (b.W.ex c5) ((Kq.ex e6).trans k6)) (fv_rep (fd gd))).mono (by decide)
  · refine (Fv.lst (m := 2) n6r (k6 _ _ n6r upd_same) fun y hy => ?_).mono (by decide)
    simp only [List.mem_cons, List.mem_nil_iff, or_false] at hy
    subst hy
    exact fd gd
  · exact Fv.non.mono (by decide)
  · refine Fv.tup (m := 3) (tup_of (upd_same (H := H7)) b8.W k9) fun y hy => ?_
    simp only [List.mem_cons, List.mem_nil_iff, or_false] at hy
    subst hy
    exact f7.kr kk8.kr W7.lst
  · refine Fv.tup (m := 3) (x11 _ _ upd_same) fun y hy => ?_
    simp only [List.mem_cons, List.mem_nil_iff, or_false] at hy
    rcases hy with rfl | rfl
    · exact (fd gd).mono (by decide)
    · exact f9.kr (Kr.ex x10) W9.lst
  · exact (Fv.tup (m := 0) (e12 _ _ upd_same) (by simp)).mono (by decide)
end
end K01

set_option maxHeartbeats 4000000
namespace K01
open PySem PySem.Spec PyProof.Rows L2 Hd Evl
/-! ### slices, sums of tuples, told answers -/
section
variable {K : PySem.W.Frag} {H : Hp} {a b : Addr} {xs ys : List V} {Q : VK} {lo hi : Option Int}
theorem cut_sub : (∀ y ∈ cutV xs lo hi, y ∈ xs) ∧ (cutV xs lo hi).length ≤ xs.length := by
  unfold cutV
  refine ⟨fun y hy => ?_, ?_⟩
  · exact List.mem_of_mem_drop (List.mem_of_mem_take hy)
  · rw [List.length_take, List.length_drop]
    omega
theorem slice_q (h : H a = some (.tup xs)) (q : ∀ p H' ys, Ex H H' → H' p = some (.tup ys) → (∀ y ∈ ys, y ∈ xs) → ys.length ≤ xs.length → Q (.ref p) H') : rSlA K (.ref a) lo hi H Q :=
  ⟨a, xs, rfl, SqT.of h, fun _ => q a H xs (Ex.refl H) h (fun y hy => hy) (Nat.le_refl _), fun _ p np => q p _ _ (Ex.new np) upd_same cut_sub.1 cut_sub.2⟩
theorem cat_q (ha : H a = some (.tup xs)) (hb : H b = some (.tup ys)) (l : xs.length + ys.length ≤ 1000) (q : ∀ p H', Ex H H' → H' p = some (.tup (xs ++ ys)) → Q (.ref p) H') : rCatA K (.ref a) (.ref b) H Q :=
  ⟨a, b, xs, ys, rfl, rfl, SqT.of ha, SqT.of hb, Nat.le_trans l (by decide), fun e => q b H (Ex.refl H) (by rw [e]; exact hb), fun _ e => q a H (Ex.refl H) (by rw [e, List.append_nil]; exact ha), fun _ _ p np => q p _ (Ex.new np) upd_same⟩
end
/-! ### what the calls refuse -/
theorem told_ne {K : PySem.W.Frag} {H : Hp} {p1 p2 : Addr} {er : Er} {Q : VK} (h1 : H p1 = some (.tup er.told)) (h2 : H p2 = some (.tup er.told)) (q : Q (.bl false) H) : rNeD K (.ref p1) (.ref p2) H Q := by
  have key : ∃ d, (∀ p, H p = some (.tup er.told) → Dp K H (.ref p) d) ∧ PyData.canLay0 d = true ∧ PyData.depth d ≤ 64 := by
    cases er with
    | story o =>
      cases o with
      | none => exact ⟨.tuple [.str "story", .str "none"], fun p h => .tup (SqT.of h) (.cons (.str _) (.cons (.str _) .nil)), by decide +kernel, by decide +kernel⟩
      | some i => exact ⟨.tuple [.str "story", .int (i : Nat)], fun p h => .tup (SqT.of h) (.cons (.str _) (.cons (.int _) .nil)), by simp [PyData.canLay0, PyData.canLayAll0]; decide +kernel, by simp [PyData.depth, PyData.depthAll]⟩
    | life o =>
      cases o with
      | none => exact ⟨.tuple [.str "life", .str "none"], fun p h => .tup (SqT.of h) (.cons (.str _) (.cons (.str _) .nil)), by decide +kernel, by decide +kernel⟩
      | some i => exact ⟨.tuple [.str "life", .int (i : Nat)], fun p h => .tup (SqT.of h) (.cons (.str _) (.cons (.int _) .nil)), by simp [PyData.canLay0, PyData.canLayAll0]; decide +kernel, by simp [PyData.depth, PyData.depthAll]⟩
    | coins o =>
      cases o with
      | none => exact ⟨.tuple [.str "coins", .str "none"], fun p h => .tup (SqT.of h) (.cons (.str _) (.cons (.str _) .nil)), by decide +kernel, by decide +kernel⟩
      | some i => exact ⟨.tuple [.str "coins", .int (i : Nat)], fun p h => .tup (SqT.of h) (.cons (.str _) (.cons (.int _) .nil)), by simp [PyData.canLay0, PyData.canLayAll0]; decide +kernel, by simp [PyData.depth, PyData.depthAll]⟩
    | drawer => exact ⟨.tuple [.str "drawer", .int 0], fun p h => .tup (SqT.of h) (.cons (.str _) (.cons (.int _) .nil)), by decide +kernel, by decide +kernel⟩
  obtain ⟨d, hd, c1, c2⟩ := key
  have sh : SeqAt.shaped d = true := by
    unfold SeqAt.shaped
    rw [c1, decide_eq_true c2] <;> rfl
  refine ⟨d, d, hd _ h1, hd _ h2, sh, sh, ?_⟩
  rw [SeqAt.eqv_refl d c1]
  exact q
section
variable {K : PySem.W.Frag} {H : Hp} {cs : Cs} {tb : Tb} {r hs : Addr} {n k d p c : Nat} {v : V} {e : PyData} {o : Option Nat}
theorem wrongS_small (h : wrongS d p e = some o) : smallO o := fun i hi => by
  subst hi
  unfold wrongS at h
  cases hs : storyD d p e with
  | none => rw [hs] at h; cases h
  | some bs =>
    rw [hs] at h
    have h' : (match badIx bs bs.length with | [] => none | i :: _ => some (some i)) = some (some i) := h
    cases hb : badIx bs bs.length with
    | nil => rw [hb] at h'; cases h'
    | cons j r =>
      rw [hb] at h'
      cases h'
      have hl := (List.getElem?_eq_some_iff.mp (badIx_head hb).1).1
      cases e with
      | tuple ms =>
        by_cases q : ms.length ≤ 40
        · have e2 : storyD d p (.tuple ms) = some (ms.map (momD d p)) := if_pos q
          rw [e2] at hs
          cases hs
          rw [List.length_map] at hl
          omega
        · have e2 : storyD d p (.tuple ms) = none := if_neg q
          rw [e2] at hs
          cases hs
      | _ => cases hs
theorem told_story (hh : HouseAt H hs n k d p c) (dv : Dv r H v e) (tg : GxR.TabG H tb.m) (w : wrongS d p e = some o) : Told K cs (spStory K cs.S tb.m) [.ref hs, v] H (.story o) := by
  have sv := dv_story (K := K) (d := d) (p := p) dv
  have sm := wrongS_small w
  unfold wrongS at w
  cases hs : storyD d p e with
  | none =>
    rw [hs] at w sv
    obtain rfl : none = o := Option.some.inj w
    exact t_story hh sv tg
  | some bs =>
    rw [hs] at w sv
    have w' : (match badIx bs bs.length with | [] => none | i :: _ => some (some i)) = some o := w
    cases hb : badIx bs bs.length with
    | nil => rw [hb] at w'; cases w'
    | cons j r =>
      rw [hb] at w'
      obtain rfl : some j = o := Option.some.inj w'
      obtain ⟨g1, g2⟩ := badIx_head hb
      exact t_storyAt hh sv tg g2 g1 (sm j rfl)
theorem told_wait (hh : HouseAt H hs n k d p c) (dv : Dv r H v e) (hr : ∃ ys, H r = some (.lst ys)) (tg : GxR.TabG H tb.m) (w : wrongS d p e = some o) {x y : V} : Told K cs (sp_waiting_counts K cs tb) [.ref hs, x, v, y] H (.story o) := fun Q E h =>
  ⟨_, _, _, _, rfl, _, _, _, _, rfl, snd_told (p_house hh) (fun H1 k1 => told_story (hh.ks k1) (Hd.Dv.kr (Kl.kr k1) (lst_nt hr) e v dv) (k1.g _ tg) w) _ _ h⟩
end
end K01

set_option maxHeartbeats 4000000
namespace K01
open PySem PySem.Spec PyProof.Rows L2 Hd Evl
theorem wV_none {o : Option (Option Nat)} : decide (wV o = V.non) = o.isNone := by
  cases o with
  | none => rfl
  | some o => cases o <;> rfl
theorem wV_some (o : Option Nat) : wV (some o) = ixT o := by cases o <;> rfl
theorem wrongS_ok {d p : Nat} {e : PyData} : (wrongS d p e).isNone = okS (storyD d p e) := by
  have h := wrongS_none (d := d) (p := p) (e := e)
  cases hw : wrongS d p e with
  | none => rw [h.mp hw] <;> rfl
  | some o =>
    cases ho : okS (storyD d p e) with
    | false => rfl
    | true =>
      have := h.mpr ho
      rw [hw] at this
      cases this
theorem wrongL_ok {d p : Nat} {e : PyData} : (wrongL d p e).isNone = okL (lifeD d p e) := by
  have h := wrongL_none (d := d) (p := p) (e := e)
  cases hw : wrongL d p e with
  | none => rw [h.mp hw] <;> rfl
  | some o =>
    cases ho : okL (lifeD d p e) with
    | false => rfl
    | true =>
      have := h.mpr ho
      rw [hw] at this
      cases this
theorem alike_bl {K : PySem.W.Frag} {H : Hp} {x y : Bool} {Q : VK} {E : XK} (e : x = y) (q : ∀ H', Ex H H' → Q (.bl true) H') : spAlike K 1 [.bl x, .bl y] H Q E := by
  subst e
  exact (⟨⟨_, _, .bool x, rfl, .bl _, .bl _, by simp [PyData.depth], by simp [wideD], q⟩⟩ : AlikeP K 0 _ H Q E)
section
variable {P : Program} {w : World} {K : PySem.W.Frag} {mg : Str → Option Value} {base : Heap} {cs : Cs} {tb : Tb} {f c Pa a : Addr} {ns : List Int} {A : Around} {outer : List Env} {s : Shared} {H0 : Hp} {E0 : XK}
theorem st8 (L : Lw P w K mg base cs tb Pa) (TB : LamX.TabB base mg c Pa) (hr : LRoom A s f c) : Does (LX P w K mg base f c A outer s H0 E0) (lawSt 8) (AtA K tb Pa a ns fun r _ _ d p L σ H => SD d p L σ H ∧ DeedAt d p σ H ∧ FvL 8 4 r σ H ∧ ∃ j, IntAt 7 σ j) (AtA K tb Pa a ns fun r _ _ d p L σ H => DeedAt d p σ H) := by
  have un : (A.deeper (envOfC "law" (defScope s_law) s.heap.objs.size f (.ref c))).units + 64 < cLine := by have := hr.un; omega
  refine ⟨_, ps_for (passes_of rfl) rfl (pi_list (pe_lst (pa_cons (pv 4) (pa_cons (pe_op op_catA (pe_op op_catA (pe_slice sl_tupA (pv 4) po_none (po_some (pv 7))) (pe_tup (pa_cons (pe_call L.pk.G (hr.mono (by decide)) (by rfl) L.pk.m L.pk.k L.pk.b .nil pass0 (pa_cons (pv 1) (pa_cons (pv 8) pa_nil))) pa_nil))) (pe_slice sl_tupA (pv 4) (po_some (pv 7)) po_none)) (pa_cons (pe_op op_catA (pe_slice sl_tupA (pv 4) po_none (po_some (pv 7))) (pe_tup (pa_cons (pe_call L.pk.G (hr.mono (by decide)) (by rfl) L.pk.m L.pk.k L.pk.b .nil pass0 (pa_cons (pv 1) (pa_cons (pv 8) pa_nil))) pa_nil))) (pa_cons (pe_callTy call_list_of (by rfl) L.B.list (by decide +kernel) (pa_cons (pv 4) pa_nil)) (pa_cons pe_non (pa_cons (pe_op op_times (pe_tup (pa_cons (pe_tup pa_nil) pa_nil)) pe_int) (pa_cons (pe_op op_times (pe_tup (pa_cons (pe_tup pa_nil) pa_nil)) pe_int) pa_nil))))))))) (pg_name (i := 9) sc_law.nd rfl (Or.inr rfl)) (pss_cons (ps_set (i := 10) sc_law.nd rfl (Or.inl rfl) (pe_call L.ws.G (hr.mono (by decide)) (by rfl) L.ws.m L.ws.k L.ws.b .nil pass0 (pa_cons (pv 2) (pa_cons (pv 9) (pa_cons (pe_op op_sub (pe_ix ix_tup (pv 2) pe_int (fun _ _ => rfl)) pe_int) pa_nil)))))
    (pss_cons (ps_if (pt_not (pt_val (pe_call (L.al 1).G (hr.mono (by decide)) (by rfl) (L.al 1).m (L.al 1).k (L.al 1).b .nil pass0 (pa_cons (pe_call L.iS.G (hr.mono (by decide)) (by rfl) L.iS.m L.iS.k L.iS.b .nil (passX (E := E0) rfl rfl rfl rfl) (pa_cons (pv 2) (pa_cons (pv 9) pa_nil))) (pa_cons (pe_cmpR op_isN (pv 10) pe_non (nomark _)) pa_nil))))) (pss_one (ps_ret pe_bl)) pss_nil)
    (pss_one (ps_if (PW.pt (pw_and (pt_cmpR op_notN (pv 10) pe_non (nomark _)) (pw_and1 (pt_cmpR (op_neD un) (pe_told L.W lawQ TB rfl rfl (by rfl) (k := 11) (hr.mono (by decide)) (LamX.lamS_by (by rfl)) (fun A' outer' s' H' E' f' c' hr' => pe_call L.wc.G hr' (by rfl) L.wc.m L.wc.k L.wc.b .nil (passX (E := E') rfl rfl rfl rfl) (pa_cons (pv 2) (pa_cons pe_str (pa_cons (pv 9) (pa_cons pe_int pa_nil))))) (by rfl) (fun _ _ _ _ _ => by rfl)) (pe_tup (pa_cons pe_str (pa_cons (pv 10) pa_nil))) (nomark _))))) (pss_one (ps_ret pe_bl)) pss_nil)))), fun D σ H pre post => ?_⟩
  obtain ⟨r, hs, lf, n, k, d, p, cc, Lf, b, sd, dd, fl, j, hj⟩ := pre
  obtain ⟨u, rfl⟩ : ∃ u, d = u + 1 := ⟨d - 1, by have := b.hh.d1; omega⟩
  obtain ⟨su, sx, s4, tvs, mem⟩ := id sd.st
  obtain ⟨us, gu, ul, fu⟩ := fv_moms (r := r) tvs
  have l6 := len_le mem
  have l7 := b.ok.len
  refine ⟨.ref su, s4, .ref su, s4, iV j, hj, _, rfl, slice_q gu fun p1 H1 ys1 E1 g1 m1 i1 => ?_⟩
  have b1 := b.ex E1
  obtain ⟨l8, x8, s8, g8, n8, a1, a2, a3⟩ := id (fl.kr (Kr.ex E1) b.W.lst)
  refine ⟨.ref r, b.s1, .ref l8, s8, r, a, l8, ns, x8, rfl, b1.W, g8, n8, a1, a2, fun v2 hv2 H2 kq2 W2 => ?_⟩
  have b2 := b1.kq kq2 W2
  have f2 := (a3 v2 hv2).kr kq2.kr b1.W.lst
  refine ⟨by show 1 ≤ sizeLine; decide, fun t3 n3 => ?_⟩
  have E3 := Ex.new (o := HO.tup [v2]) n3
  have k13 : Kq r H1 _ := kq2.trans (Kq.ex E3)
  refine cat_q (k13.kt b1.W _ _ g1) upd_same (by show ys1.length + 1 ≤ 1000; omega) fun p4 H4 E4 g4 => ?_
  have k04 : Kq r H H4 := (Kq.ex E1).trans (k13.trans (Kq.ex E4))
  refine ⟨.ref su, s4, iV j, hj, _, rfl, ?_⟩
  dsimp only [tNoPart]
  refine slice_q (k04.kt b.W _ _ gu) fun p5 H5 ys5 E5 g5 m5 i5 => ?_
  refine cat_q (E5 _ _ g4) g5 (by rw [List.length_append]; show ys1.length + 1 + ys5.length ≤ 1000; omega) fun p6 H6 E6 g6 => ?_
  have k06 : Kq r H H6 := k04.trans ((Kq.ex E5).trans (Kq.ex E6))
  have E26 := E3.trans (E4.trans (E5.trans E6))
  have b6 := b2.ex E26
  refine ⟨.ref su, s4, iV j, hj, _, rfl, slice_q (k06.kt b.W _ _ gu) fun p7 H7 ys7 E7 g7 m7 i7 => ?_⟩
  have b7 := b6.ex E7
  have k07 : Kq r H H7 := k06.trans (Kq.ex E7)
  obtain ⟨l9, x9, s9, g9, n9, a1', a2', a3'⟩ := id (fl.kr k07.kr b.W.lst)
  refine ⟨.ref r, b.s1, .ref l9, s9, r, a, l9, ns, x9, rfl, b7.W, g9, n9, a1', a2', fun v8 hv8 H8 kq8 W8 => ?_⟩
  have b8 := b7.kq kq8 W8
  have f8 := (a3' v8 hv8).kr kq8.kr b7.W.lst
  refine ⟨by show 1 ≤ sizeLine; decide, fun t9 nt9 => ?_⟩
  have E9 := Ex.new (o := HO.tup [v8]) nt9
  have k79 : Kq r H7 _ := kq8.trans (Kq.ex E9)
  refine cat_q (k79.kt b7.W _ _ g7) upd_same (by show ys7.length + 1 ≤ 1000; omega) fun p10 H10 E10 g10 => ?_
  have E810 := E9.trans E10
  have b10 := b8.ex E810
  have k010 : Kq r H H10 := k07.trans (k79.trans (Kq.ex E10))
  refine ⟨.ref su, s4, su, us, rfl, .inr (SqT.of (k010.kt b.W _ _ gu)), fun t11 n11 => ?_⟩
  have E11 := Ex.new (o := HO.lst us) n11
  have n11r := b10.W.ne n11
  refine ⟨by show 0 ≤ sizeLine; decide, fun t12 n12 => ?_⟩
  have E12 := Ex.new (o := HO.tup []) n12
  refine ⟨by show 1 ≤ sizeLine; decide, fun t13 n13 => ?_⟩
  have E13 := Ex.new (o := HO.tup [V.ref t12]) n13
  refine times_q (m := 41) upd_same rfl (by decide) (by decide) fun t14 H14 E14 g14 => ?_
  refine ⟨by show 0 ≤ sizeLine; decide, fun t15 n15 => ?_⟩
  have E15 := Ex.new (o := HO.tup []) n15
  refine ⟨by show 1 ≤ sizeLine; decide, fun t16 n16 => ?_⟩
  have E16 := Ex.new (o := HO.tup [V.ref t15]) n16
  refine times_q (m := 40) upd_same rfl (by decide) (by decide) fun t17 H17 E17 g17 => ?_
  refine ⟨by show 7 ≤ sizeLine; decide, fun t18 n18 => ?_⟩
  have E18 := Ex.new (o := HO.lst [V.ref su, V.ref p6, V.ref p10, V.ref t11, V.non, V.ref t14, V.ref t17]) n18
  have E1417 := E15.trans (E16.trans (E17.trans E18))
  have E1117 := E12.trans (E13.trans (E14.trans E1417))
  have E10G := E11.trans E1117
  have n18r := (b10.W.ex (E11.trans (E12.trans (E13.trans (E14.trans (E15.trans (E16.trans E17))))))).ne n18
  have bG := b10.ex E10G
  have k8G : Kq r H8 _ := Kq.ex (E810.trans E10G)
  have k2G : Kq r H2 _ := (Kq.ex E26).trans ((Kq.ex E7).trans (kq8.trans k8G))
  have k6G : Kq r H6 _ := (Kq.ex E7).trans (kq8.trans k8G)
  have kG : Kq r H _ := k010.trans (Kq.ex E10G)
  have fuG : ∀ y ∈ us, Fv 3 r _ y := fun y hy => (fu y hy).kr kG.kr b.W.lst
  have all : ∀ x ∈ [V.ref su, V.ref p6, V.ref p10, V.ref t11, V.non, V.ref t14, V.ref t17], Fv 5 r _ x := fun x hx => by
    simp only [List.mem_cons, List.mem_nil_iff, or_false] at hx
    rcases hx with rfl | rfl | rfl | rfl | rfl | rfl | rfl
    · exact (Fv.tup (kG.kt b.W _ _ gu) fuG).mono (by decide)
    · refine Fv.tup (m := 4) (k6G.kt b6.W _ _ g6) fun y hy => ?_
      rcases List.mem_append.mp hy with h | h
      · rcases List.mem_append.mp h with h | h
        · exact (fuG y (m1 y h)).mono (by decide)
        · rw [List.mem_singleton.mp h]
          exact f2.kr k2G.kr W2.lst
      · exact (fuG y (m5 y h)).mono (by decide)
    · refine Fv.tup (m := 4) (E10G _ _ g10) fun y hy => ?_
      rcases List.mem_append.mp hy with h | h
      · exact (fuG y (m7 y h)).mono (by decide)
      · rw [List.mem_singleton.mp h]
        exact f8.kr k8G.kr W8.lst
    · exact (Fv.lst n11r (E1117 _ _ upd_same) fuG).mono (by decide)
    · exact Fv.non.mono (by decide)
    · refine (Fv.tup (m := 1) (E1417 _ _ g14) (fv_rep ?_)).mono (by decide)
      exact Fv.tup (m := 0) ((E13.trans (E14.trans E1417)) _ _ upd_same) (by simp)
    · refine (Fv.tup (m := 1) (E18 _ _ g17) (fv_rep ?_)).mono (by decide)
      exact Fv.tup (m := 0) ((E16.trans (E17.trans E18)) _ _ upd_same) (by simp)
  generalize hX : [V.ref su, V.ref p6, V.ref p10, V.ref t11, V.non, V.ref t14, V.ref t17] = X at all bG kG ⊢
  have gX : (upd H17 t18 (HO.lst X)) t18 = some (.lst X) := upd_same
  refine ⟨t18, rfl, ⟨X, SqL.of gX⟩, for_list (xs := X) (fun i σ G => Bs K tb Pa a ns r hs lf n k (u + 1) p cc Lf σ G ∧ DeedAt (u + 1) p σ G ∧ G t18 = some (.lst X) ∧ ∀ x ∈ X, Fv 5 r G x) ⟨bG, dd.kt (kG.kt b.W), gX, all⟩ (fun i σ G _ w => SqL.of w.2.2.1) (fun i x σ G hx w => ?_) (fun σ G w => post _ _ ⟨r, hs, lf, n, k, u + 1, p, cc, Lf, w.1, w.2.1⟩)⟩
  obtain ⟨b, dd, gl, fx⟩ := w
  have b9 := b.set (i := 9) (x := some x) (by decide)
  have s9 := gn (σ := σ) (v := x) b.len (show 9 < 20 by decide)
  obtain ⟨e, dv, fe⟩ := (fx x (List.mem_of_getElem? hx)).fine (by decide)
  refine ⟨.ref hs, b9.s2, x, s9, .ref hs, b9.s2, hs, _, _, .int (u + 1 : Nat), rfl, rfl, SqT.of b.hh.at_, atI_nat (j := 2) rfl, _, _, rfl, rfl, ⟨⟨r, hs, n, k, u + 1, p, cc, u, x, e, ?_, b.hh, dv, fe, b.W.lst, fun G1 E1 => ?_⟩⟩⟩
  · show [V.ref hs, x, V.int (((u + 1 : Nat) : Int) - 1)] = _
    rw [show (((u + 1 : Nat) : Int) - 1) = (u : Int) by omega]
  have b10 := (b9.ex E1).set (i := 10) (x := some (wV (wrongS (u + 1) p e))) (by decide)
  have s9' := gs (i := 10) (x := some (wV (wrongS (u + 1) p e))) s9 (by decide)
  have s10 := gn (σ := σ.set 9 (some x)) (v := wV (wrongS (u + 1) p e)) b9.len (show 10 < 20 by decide)
  have dv1 := Hd.Dv.kr (Kr.ex E1) (lst_nt b.W.lst) e x dv
  refine ⟨.ref hs, b10.s2, x, s9', hs, n, k, u + 1, p, cc, x, _, rfl, b10.hh, dv_story dv1, b10.T.m, fun G2 k2 t2 => ⟨wV (wrongS (u + 1) p e), s10, rfl, alike_bl ?_ fun G3 E3 => ⟨true, rfl, iteF ?_⟩⟩⟩
  · rw [wV_none, wrongS_ok]
  have k13 : Ks K G1 G3 := k2.trans (Ks.ex E3)
  have b3 := b10.kl k13 (tabS_kl L.na b10.T.l k13)
  have dv3 := Hd.Dv.kr (Kl.kr k13) (lst_nt b10.W.lst) e x dv1
  have kr03 : Kr r G G3 := (Kr.ex E1).trans (Kl.kr k13)
  have go : ∀ {G' : Hp}, Bs K tb Pa a ns r hs lf n k (u + 1) p cc Lf ((σ.set 9 (some x)).set 10 (some (wV (wrongS (u + 1) p e)))) G' → Kr r G3 G' → Kt G3 G' → (Bs K tb Pa a ns r hs lf n k (u + 1) p cc Lf ((σ.set 9 (some x)).set 10 (some (wV (wrongS (u + 1) p e)))) G' ∧ DeedAt (u + 1) p ((σ.set 9 (some x)).set 10 (some (wV (wrongS (u + 1) p e)))) G' ∧ G' t18 = some (.lst X) ∧ ∀ x ∈ X, Fv 5 r G' x) := fun bb kr kt => by
    have kr' := kr03.trans kr
    have ktA : Kt G _ := fun t xs h => kt _ _ (k13.t _ _ (E1 _ _ h))
    exact ⟨bb, ((dd.kt ktA).set (by decide)).set (by decide), kr' _ _ n18r (fun ps z => by cases z) gl, fun y hy => (fx y hy).kr kr' b.W.lst⟩
  refine ⟨wV (wrongS (u + 1) p e), s10, rfl, _, rfl, ?_⟩
  rw [wV_none]
  rcases (show wrongS (u + 1) p e = none ∨ ∃ o, wrongS (u + 1) p e = some o by cases wrongS (u + 1) p e; exact .inl rfl; exact .inr ⟨_, rfl⟩) with hw | ⟨o, hw⟩
  · rw [show (wrongS (u + 1) p e).isNone = true by rw [hw] <;> rfl]
    exact iteF (iteF (go b3 (fun _ _ _ _ h => h) (fun _ _ h => h)))
  · rw [show (wrongS (u + 1) p e).isNone = false by rw [hw] <;> rfl]
    refine iteT (told_go (K := K) (er := .story o) (q := lawQ) b3.T.l (fun G4 Qn E k4 T4 hE => ?_) fun G5 p5 k5 T5 g5 => ?_)
    · refine ⟨.ref hs, b3.s2, x, s9', ?_⟩
      have b4 := b3.kl k4 T4
      exact told_one (Qn := Qn) L.na (told_wait (x := .str "true") (y := .int 0) b4.hh (Hd.Dv.kr (Kl.kr k4) (lst_nt b3.W.lst) e x dv3) b4.W.lst b4.T.m hw) k4 T4 hE
    · refine ⟨wV (wrongS (u + 1) p e), s10, by show 2 ≤ sizeLine; decide, fun p6 n6 => ?_⟩
      have E6 := Ex.new (o := HO.tup [V.str "story", wV (wrongS (u + 1) p e)]) n6
      refine told_ne (er := .story o) (E6 _ _ g5) (upd_same.trans (by rw [hw, wV_some] <;> rfl)) ⟨_, rfl, iteF ?_⟩
      have b5 := (b3.kl k5 T5).ex E6
      exact go b5 ((Kl.kr k5).trans (Kr.ex E6)) (fun t xs h => E6 _ _ (k5.t _ _ h))
end
end K01

set_option maxHeartbeats 4000000
namespace K01
open PySem PySem.Spec PyProof.Rows L2 Hd Evl
/-! ### wrong lives told -/
section
variable {K : PySem.W.Frag} {H : Hp} {cs : Cs} {tb : Tb} {r hs : Addr} {n k d p c : Nat} {v : V} {e : PyData} {o : Option Nat}
theorem t_lifeBad {a : Addr} {n k d p c i : Nat} {v : V} {l : List (Bool × Nat)} (hh : HouseAt H a n k d p c) (L : LifeOf K H d p tb v (some l)) (b : BadAt l i) (si : i < 1000) : Told K cs (spLife K cs.L tb.m tb.s) [.ref a, v] H (.life (some i)) := fun Q E h =>
  ⟨a, n, k, d, p, c, v, some l, rfl, hh, L.v, L.m, L.s, fun z => (by cases z), fun l' el => by
    cases el
    refine ⟨fun g2 => (b.not g2 b.2.1).elim, fun j gj bj hj dd H' k' _ hd => ?_⟩
    obtain rfl : i = j := b.uniq ⟨gj, hj, bj⟩
    exact h _ _ _ k' ⟨rfl, ⟨dd, rfl, hd⟩, fun q eq => by cases eq; exact si⟩⟩
theorem told_life (hh : HouseAt H hs n k d p c) (dv : Dv r H v e) (hr : ∃ ys, H r = some (.lst ys)) (tm : GxR.TabG H tb.m) (ts : GxR.TabG H tb.s) (w : wrongL d p e = some o) : Told K cs (spLife K cs.L tb.m tb.s) [.ref hs, v] H (.life o) := by
  have lv := dv_life (K := K) (d := d) (p := p) dv
  unfold wrongL at w
  cases hl : lifeD d p e with
  | none =>
    rw [hl] at w lv
    obtain rfl : none = o := Option.some.inj w
    exact t_life hh ⟨lv, tm, ts⟩
  | some l =>
    rw [hl] at w lv
    have w' : (firstL l 0 0).map some = some o := w
    rcases first_cases l with ⟨z, _⟩ | ⟨j, z, b⟩
    · rw [z] at w'
      cases w'
    · rw [z] at w'
      obtain rfl : some j = o := Option.some.inj w'
      have l6 : l.length ≤ 6 := by
        cases e with
        | tuple ss =>
          by_cases q : 1 ≤ ss.length ∧ ss.length ≤ 6
          · have e2 : lifeD d p (.tuple ss) = some (ss.map fun s => (sessD d p s, sessLen s)) := if_pos q
            rw [e2] at hl
            cases hl
            rw [List.length_map]
            exact q.2
          · have e2 : lifeD d p (.tuple ss) = none := if_neg q
            rw [e2] at hl
            cases hl
        | _ => cases hl
      have := b.2.1
      exact t_lifeBad hh ⟨lv, tm, ts⟩ b (by omega)
theorem told_up (hh : HouseAt H hs n k d p c) (dv : Dv r H v e) (hr : ∃ ys, H r = some (.lst ys)) (tm : GxR.TabG H tb.m) (ts : GxR.TabG H tb.s) (w : wrongL d p e = some o) {y : V} : Told K cs (sp_upper K cs tb) [.ref hs, v, y] H (.life o) := fun Q E h =>
  ⟨_, _, _, rfl, snd_told (p_house hh) (fun H1 k1 => told_life (hh.ks k1) (Hd.Dv.kr (Kl.kr k1) (lst_nt hr) e v dv) (let ⟨ys, g⟩ := hr; ⟨ys, k1.l _ _ g⟩) (k1.g _ tm) (k1.g _ ts) w) _ _ h⟩
theorem told_rows (hh : HouseAt H hs n k d p c) (dv : Dv r H v e) (hr : ∃ ys, H r = some (.lst ys)) (tm : GxR.TabG H tb.m) (ts : GxR.TabG H tb.s) (w : wrongL d p e = some o) : Told K cs (sp_row_count K cs tb) [.ref hs, v] H (.life o) := fun Q E h =>
  ⟨_, _, rfl, snd_told (p_house hh) (fun H1 k1 => told_life (hh.ks k1) (Hd.Dv.kr (Kl.kr k1) (lst_nt hr) e v dv) (let ⟨ys, g⟩ := hr; ⟨ys, k1.l _ _ g⟩) (k1.g _ tm) (k1.g _ ts) w) _ _ h⟩
end
theorem times_all {K : PySem.W.Frag} {H : Hp} {l : Addr} {xs : List V} {m : Nat} {z : Int} {Q : VK} (h : H l = some (.tup xs)) (ne : xs ≠ []) (lx : xs.length ≤ 1000) (e : z = (m : Int)) (h1 : 1 ≤ m) (h2 : m ≤ 100) (q : ∀ p H' ys, Ex H H' → H' p = some (.tup ys) → (∀ y ∈ ys, y ∈ xs) → Q (.ref p) H') : rTimes K (.ref l) (.int z) H Q := by
  subst e
  refine ⟨l, m, xs, rfl, rfl, SqT.of h, ne, by omega, by omega, lx, fun e => q l H xs (Ex.refl H) h (fun y hy => hy), fun _ p np => q p _ _ (Ex.new np) upd_same fun y hy => ?_⟩
  obtain ⟨ys, hys, hy2⟩ := List.mem_flatten.mp hy
  rw [(List.mem_replicate.mp hys).2] at hy2
  exact hy2
section
variable {P : Program} {w : World} {K : PySem.W.Frag} {mg : Str → Option Value} {base : Heap} {cs : Cs} {tb : Tb} {f c Pa a : Addr} {ns : List Int} {A : Around} {outer : List Env} {s : Shared} {H0 : Hp} {E0 : XK}
theorem st9 (L : Lw P w K mg base cs tb Pa) (hr : LRoom A s f c) : Does (LX P w K mg base f c A outer s H0 E0) (lawSt 9) (AtA K tb Pa a ns fun r _ _ d p L σ H => DeedAt d p σ H) (AtA K tb Pa a ns fun r _ _ d p L σ H => DeedAt d p σ H ∧ ∃ j, IntAt 11 σ j) := by
  refine ⟨_, ps_set (i := 11) sc_law.nd rfl (Or.inl rfl) (pe_call L.tk.G (hr.mono (by decide)) (by rfl) L.tk.m L.tk.k L.tk.b .nil pass0 (pa_cons (pv 1) (pa_cons (pe_op op_add (pe_callB call_len_seq (by rfl) L.B.len (by decide +kernel) (pa_cons (pv 3) pa_nil)) pe_int) pa_nil))), fun D σ H pre post => ?_⟩
  obtain ⟨r, hs, lf, n, k, d, p, c, Lf, b, dd⟩ := pre
  obtain ⟨us, gu, ul, _⟩ := fv_items (r := r) b.tv
  have l3 := b.ok.three
  refine ⟨.ref r, b.s1, .ref lf, b.s3, lf, us, rfl, .inr (SqT.of gu), _, _, rfl, rfl, taken_of (m := us.length + 1) b.W (by push_cast; rfl) (by omega) (by omega) fun x H' lx kq W' => post _ _ ⟨r, hs, lf, n, k, d, p, c, Lf, (b.kq kq W').set (by decide), (dd.kt (kq.kt b.W)).set (by decide), x, gn b.len (by decide)⟩⟩
theorem st10 : Does (LX P w K mg base f c A outer s H0 E0) (lawSt 10) (AtA K tb Pa a ns fun r _ _ d p L σ H => DeedAt d p σ H ∧ ∃ j, IntAt 11 σ j) (AtA K tb Pa a ns fun r _ _ d p L σ H => FvL 12 5 r σ H ∧ ∃ j, IntAt 11 σ j) := by
  refine ⟨_, ps_set (i := 12) sc_law.nd rfl (Or.inl rfl) (pe_lst (pa_cons (pe_tup (pa_cons (pe_ix ix_tup (pv 2) pe_int (fun _ _ => rfl)) (pa_cons (pe_tup pa_nil) pa_nil))) (pa_cons (pe_tup (pa_cons pe_int (pa_cons (pe_tup (pa_cons (pe_tup (pa_cons (pv 5) pa_nil)) pa_nil)) pa_nil))) (pa_cons (pe_tup (pa_cons (pe_op op_sub (pe_ix ix_tup (pv 2) pe_int (fun _ _ => rfl)) pe_int) (pa_cons (pe_tup (pa_cons (pe_tup (pa_cons (pv 5) pa_nil)) pa_nil)) pa_nil))) (pa_cons (pe_tup (pa_cons pe_int (pa_cons pe_non pa_nil))) (pa_cons (pe_tup (pa_cons pe_int pa_nil)) (pa_cons (pe_lst (pa_cons pe_int (pa_cons (pe_tup pa_nil) pa_nil))) (pa_cons pe_non (pa_cons (pe_tup (pa_cons pe_bl (pa_cons (pe_tup pa_nil) pa_nil))) (pa_cons (pe_tup (pa_cons pe_int (pa_cons (pe_op op_times (pe_tup (pa_cons (pe_tup pa_nil) pa_nil)) pe_int) pa_nil))) (pa_cons (pe_tup (pa_cons (pe_op op_sub (pe_ix ix_tup (pv 2) pe_int (fun _ _ => rfl)) pe_int) (pa_cons (pe_tup (pa_cons (pe_tup pa_nil) (pa_cons pe_non pa_nil))) pa_nil))) pa_nil))))))))))), fun D σ H pre post => ?_⟩
  obtain ⟨r, hs, lf, n, k, d, p, c, Lf, b, ⟨td, hd5, hd⟩, j, hj⟩ := pre
  refine ⟨.ref hs, b.s2, hs, _, _, .int d, rfl, rfl, SqT.of b.hh.at_, atI_nat (j := 2) rfl, by show 0 ≤ sizeLine; decide, fun t1 n1 => ?_⟩
  have e1 := Ex.new (o := HO.tup []) n1
  refine ⟨by show 2 ≤ sizeLine; decide, fun t2 n2 => ?_⟩
  have e2 := Ex.new (o := HO.tup [V.int d, V.ref t1]) n2
  refine ⟨.ref td, hd5, by show 1 ≤ sizeLine; decide, fun t3 n3 => ?_⟩
  have e3 := Ex.new (o := HO.tup [V.ref td]) n3
  refine ⟨by show 1 ≤ sizeLine; decide, fun t4 n4 => ?_⟩
  have e4 := Ex.new (o := HO.tup [V.ref t3]) n4
  refine ⟨by show 2 ≤ sizeLine; decide, fun t5 n5 => ?_⟩
  have e5 := Ex.new (o := HO.tup [V.int 0, V.ref t4]) n5
  have x5 := e1.trans (e2.trans (e3.trans (e4.trans e5)))
  refine ⟨.ref hs, b.s2, hs, _, _, .int d, rfl, rfl, SqT.of (x5 _ _ b.hh.at_), atI_nat (j := 2) rfl, _, _, rfl, rfl, .ref td, hd5, by show 1 ≤ sizeLine; decide, fun t6 n6 => ?_⟩
  have e6 := Ex.new (o := HO.tup [V.ref td]) n6
  refine ⟨by show 1 ≤ sizeLine; decide, fun t7 n7 => ?_⟩
  have e7 := Ex.new (o := HO.tup [V.ref t6]) n7
  refine ⟨by show 2 ≤ sizeLine; decide, fun t8 n8 => ?_⟩
  have e8 := Ex.new (o := HO.tup [V.int ((d : Int) - 1), V.ref t7]) n8
  refine ⟨by show 2 ≤ sizeLine; decide, fun t9 n9 => ?_⟩
  have e9 := Ex.new (o := HO.tup [V.int 0, V.non]) n9
  refine ⟨by show 1 ≤ sizeLine; decide, fun t10 n10 => ?_⟩
  have e10 := Ex.new (o := HO.tup [V.int 0]) n10
  refine ⟨by show 0 ≤ sizeLine; decide, fun t11 n11 => ?_⟩
  have e11 := Ex.new (o := HO.tup []) n11
  refine ⟨by show 2 ≤ sizeLine; decide, fun t12 n12 => ?_⟩
  have e12 := Ex.new (o := HO.lst [V.int 0, V.ref t11]) n12
  refine ⟨by show 0 ≤ sizeLine; decide, fun t13 n13 => ?_⟩
  have e13 := Ex.new (o := HO.tup []) n13
  refine ⟨by show 2 ≤ sizeLine; decide, fun t14 n14 => ?_⟩
  have e14 := Ex.new (o := HO.tup [V.bl true, V.ref t13]) n14
  refine ⟨by show 0 ≤ sizeLine; decide, fun t15 n15 => ?_⟩
  have e15 := Ex.new (o := HO.tup []) n15
  refine ⟨by show 1 ≤ sizeLine; decide, fun t16 n16 => ?_⟩
  have e16 := Ex.new (o := HO.tup [V.ref t15]) n16
  refine times_q (m := 36) upd_same rfl (by decide) (by decide) fun t17 G17 e17 g17 => ?_
  refine ⟨by show 2 ≤ sizeLine; decide, fun t18 n18 => ?_⟩
  have e18 := Ex.new (o := HO.tup [V.int 0, V.ref t17]) n18
  have x18 := e6.trans (e7.trans (e8.trans (e9.trans (e10.trans (e11.trans (e12.trans (e13.trans (e14.trans (e15.trans (e16.trans (e17.trans e18)))))))))))
  refine ⟨.ref hs, b.s2, hs, _, _, .int d, rfl, rfl, SqT.of ((x5.trans x18) _ _ b.hh.at_), atI_nat (j := 2) rfl, _, _, rfl, rfl, by show 0 ≤ sizeLine; decide, fun t19 n19 => ?_⟩
  have e19 := Ex.new (o := HO.tup []) n19
  refine ⟨by show 2 ≤ sizeLine; decide, fun t20 n20 => ?_⟩
  have e20 := Ex.new (o := HO.tup [V.ref t19, V.non]) n20
  refine ⟨by show 2 ≤ sizeLine; decide, fun t21 n21 => ?_⟩
  have e21 := Ex.new (o := HO.tup [V.int ((d : Int) - 1), V.ref t20]) n21
  refine ⟨by show 10 ≤ sizeLine; decide, fun t22 n22 => ?_⟩
  have e22 := Ex.new (o := HO.lst [V.ref t2, V.ref t5, V.ref t8, V.ref t9, V.ref t10, V.ref t12, V.non, V.ref t14, V.ref t18, V.ref t21]) n22
  have y21 := e22
  have y20 := e21.trans e22
  have y19 := e20.trans y20
  have y18 := e19.trans y19
  have y17 := e18.trans y18
  have y16 := e17.trans y17
  have y15 := e16.trans y16
  have y14 := e15.trans y15
  have y13 := e14.trans y14
  have y12 := e13.trans y13
  have y11 := e12.trans y12
  have y10 := e11.trans y11
  have y9 := e10.trans y10
  have y8 := e9.trans y9
  have y7 := e8.trans y8
  have y6 := e7.trans y7
  have y5 := e6.trans y6
  have y4 := e5.trans y5
  have y3 := e4.trans y4
  have y2 := e3.trans y3
  have y1 := e2.trans y2
  have eN := e1.trans y1
  have n22r : t22 ≠ r := (b.W.ex (x5.trans (x18.trans (e19.trans (e20.trans e21))))).ne n22
  have n12r : t12 ≠ r := (b.W.ex (x5.trans (e6.trans (e7.trans (e8.trans (e9.trans (e10.trans e11))))))).ne n12
  have em : ∀ {t : Addr} {G : Hp}, G t = some (.tup []) → Fv 1 r G (.ref t) := fun g => Fv.tup (m := 0) g (by simp)
  have fd : ∀ {G : Hp}, G td = some (.tup [V.int ((d : Int) - 1), V.int ((p : Int) - 1), V.int 9]) → Fv 2 r G (.ref td) := fun g => ints3 (m := 0) g
  have two : ∀ {m : Nat} {t : Addr} {G : Hp} {x y : V}, G t = some (.tup [x, y]) → Fv m r G x → Fv m r G y → Fv (m + 1) r G (.ref t) := fun g fx fy => Fv.tup g fun z hz => by
    simp only [List.mem_cons, List.mem_nil_iff, or_false] at hz
    rcases hz with rfl | rfl
    · exact fx
    · exact fy
  have one : ∀ {m : Nat} {t : Addr} {G : Hp} {x : V}, G t = some (.tup [x]) → Fv m r G x → Fv (m + 1) r G (.ref t) := fun g fx => Fv.tup g fun z hz => by
    rw [List.mem_singleton.mp hz]
    exact fx
  refine post _ _ ⟨r, hs, lf, n, k, d, p, c, Lf, (b.ex eN).set (by decide), ⟨t22, _, gn b.len (by decide), upd_same, n22r, by show 1 ≤ 10; decide, by show 10 ≤ 1000; decide, fun x hx => ?_⟩, j, gs hj (by decide)⟩
  simp only [List.mem_cons, List.mem_nil_iff, or_false] at hx
  rcases hx with rfl | rfl | rfl | rfl | rfl | rfl | rfl | rfl | rfl | rfl
  · exact (two (m := 1) (y2 _ _ upd_same) (.int _) (em (y1 _ _ upd_same))).mono (by decide)
  · exact two (m := 4) (y5 _ _ upd_same) ((Fv.int _).mono (by decide)) (one (y4 _ _ upd_same) (one (y3 _ _ upd_same) (fd (eN _ _ hd))))
  · exact two (m := 4) (y8 _ _ upd_same) ((Fv.int _).mono (by decide)) (one (y7 _ _ upd_same) (one (y6 _ _ upd_same) (fd (eN _ _ hd))))
  · exact (two (m := 1) (y9 _ _ upd_same) (.int _) .non).mono (by decide)
  · exact (one (m := 1) (y10 _ _ upd_same) (.int _)).mono (by decide)
  · refine (Fv.lst (m := 1) n12r (y12 _ _ upd_same) fun z hz => ?_).mono (by decide)
    simp only [List.mem_cons, List.mem_nil_iff, or_false] at hz
    rcases hz with rfl | rfl
    · exact .int _
    · exact em (y11 _ _ upd_same)
  · exact Fv.non.mono (by decide)
  · exact (two (m := 1) (y14 _ _ upd_same) (.bl _) (em (y13 _ _ upd_same))).mono (by decide)
  · exact (two (m := 2) (y18 _ _ upd_same) ((Fv.int _).mono (by decide)) (Fv.tup (m := 1) (y17 _ _ g17) (fv_rep (em (y15 _ _ upd_same))))).mono (by decide)
  · exact (two (m := 2) (y21 _ _ upd_same) ((Fv.int _).mono (by decide)) (two (m := 1) (y20 _ _ upd_same) (em (y19 _ _ upd_same)) .non)).mono (by decide)
end
end K01

set_option maxHeartbeats 4000000
namespace K01
open PySem PySem.Spec PyProof.Rows L2 Hd Evl
section
variable {P : Program} {w : World} {K : PySem.W.Frag} {mg : Str → Option Value} {base : Heap} {cs : Cs} {tb : Tb} {f c Pa a : Addr} {ns : List Int} {A : Around} {outer : List Env} {s : Shared} {H0 : Hp} {E0 : XK}
theorem st11 (L : Lw P w K mg base cs tb Pa) (TB : LamX.TabB base mg c Pa) (hr : LRoom A s f c) : Does (LX P w K mg base f c A outer s H0 E0) (lawSt 11) (AtA K tb Pa a ns fun r _ _ d p L σ H => FvL 12 5 r σ H ∧ ∃ j, IntAt 11 σ j) (AtA K tb Pa a ns fun _ _ _ _ _ _ _ _ => True) := by
  have un : (A.deeper (envOfC "law" (defScope s_law) s.heap.objs.size f (.ref c))).units + 64 < cLine := by have := hr.un; omega
  refine ⟨_, ps_for (passes_of rfl) rfl (pi_list (pe_lst (pa_cons (pv 3) (pa_cons (pe_op op_catA (pe_op op_catA (pe_slice sl_tupA (pv 3) po_none (po_some (pv 11))) (pe_tup (pa_cons (pe_call L.pk.G (hr.mono (by decide)) (by rfl) L.pk.m L.pk.k L.pk.b .nil pass0 (pa_cons (pv 1) (pa_cons (pv 12) pa_nil))) pa_nil))) (pe_slice sl_tupA (pv 3) (po_some (pv 11)) po_none)) (pa_cons (pe_op op_catA (pe_slice sl_tupA (pv 3) po_none (po_some (pv 11))) (pe_tup (pa_cons (pe_call L.pk.G (hr.mono (by decide)) (by rfl) L.pk.m L.pk.k L.pk.b .nil pass0 (pa_cons (pv 1) (pa_cons (pv 12) pa_nil))) pa_nil))) (pa_cons (pe_callTy call_list_of (by rfl) L.B.list (by decide +kernel) (pa_cons (pv 3) pa_nil)) (pa_cons pe_non (pa_cons (pe_tup pa_nil) (pa_cons (pe_op op_times (pv 3) pe_int) (pa_cons (pe_op op_times (pe_tup (pa_cons (pe_tup (pa_cons pe_int (pa_cons (pe_tup pa_nil) pa_nil))) pa_nil)) pe_int) (pa_cons (pe_op op_times (pe_tup (pa_cons (pe_tup (pa_cons pe_int (pa_cons (pe_op op_times (pe_tup (pa_cons (pe_tup pa_nil) pa_nil)) pe_int) pa_nil))) pa_nil)) pe_int) pa_nil))))))))))) (pg_name (i := 9) sc_law.nd rfl (Or.inr rfl)) (pss_cons (ps_set (i := 10) sc_law.nd rfl (Or.inl rfl) (pe_call L.wl.G (hr.mono (by decide)) (by rfl) L.wl.m L.wl.k L.wl.b .nil pass0 (pa_cons (pv 2) (pa_cons (pv 9) pa_nil))))
    (pss_cons (ps_if (pt_not (pt_val (pe_call (L.al 1).G (hr.mono (by decide)) (by rfl) (L.al 1).m (L.al 1).k (L.al 1).b .nil pass0 (pa_cons (pe_call L.iL.G (hr.mono (by decide)) (by rfl) L.iL.m L.iL.k L.iL.b .nil (passX (E := E0) rfl rfl rfl rfl) (pa_cons (pv 2) (pa_cons (pv 9) pa_nil))) (pa_cons (pe_cmpR op_isN (pv 10) pe_non (nomark _)) pa_nil))))) (pss_one (ps_ret pe_bl)) pss_nil)
    (pss_cons (ps_if (PW.pt (pw_and (pt_cmpR op_notN (pv 10) pe_non (nomark _)) (pw_and1 (pt_cmpR (op_neD un) (pe_told L.W lawQ TB rfl rfl (by rfl) (k := 11) (hr.mono (by decide)) (LamX.lamS_by (by rfl)) (fun A' outer' s' H' E' f' c' hr' => pe_call L.up.G hr' (by rfl) L.up.m L.up.k L.up.b .nil (passX (E := E') rfl rfl rfl rfl) (pa_cons (pv 2) (pa_cons (pv 9) (pa_cons pe_int pa_nil)))) (by rfl) (fun _ _ _ _ _ => by rfl)) (pe_tup (pa_cons pe_str (pa_cons (pv 10) pa_nil))) (nomark _))))) (pss_one (ps_ret pe_bl)) pss_nil)
    (pss_one (ps_if (PW.pt (pw_and (pt_cmpR op_notN (pv 10) pe_non (nomark _)) (pw_and1 (pt_cmpR (op_neD un) (pe_told L.W lawQ TB rfl rfl (by rfl) (k := 11) (hr.mono (by decide)) (LamX.lamS_by (by rfl)) (fun A' outer' s' H' E' f' c' hr' => pe_call L.rc.G hr' (by rfl) L.rc.m L.rc.k L.rc.b .nil (passX (E := E') rfl rfl rfl rfl) (pa_cons (pv 2) (pa_cons (pv 9) pa_nil))) (by rfl) (fun _ _ _ _ _ => by rfl)) (pe_tup (pa_cons pe_str (pa_cons (pv 10) pa_nil))) (nomark _))))) (pss_one (ps_ret pe_bl)) pss_nil))))), fun D σ H pre post => ?_⟩
  obtain ⟨r, hs, lf, n, k, d, p, cc, Lf, b, fl, j, hj⟩ := pre
  obtain ⟨us, gu, ul, fu⟩ := fv_items (r := r) b.tv
  have l3 := b.ok.three
  have l1 := b.ok.one
  have une : us ≠ [] := fun z => by rw [z] at ul; simp at ul; omega
  refine ⟨.ref lf, b.s3, .ref lf, b.s3, iV j, hj, _, rfl, slice_q gu fun p1 H1 ys1 E1 g1 m1 i1 => ?_⟩
  have b1 := b.ex E1
  obtain ⟨l8, x8, s8, g8, n8, a1, a2, a3⟩ := id (fl.kr (Kr.ex E1) b.W.lst)
  refine ⟨.ref r, b.s1, .ref l8, s8, r, a, l8, ns, x8, rfl, b1.W, g8, n8, a1, a2, fun v2 hv2 H2 kq2 W2 => ?_⟩
  have b2 := b1.kq kq2 W2
  have f2 := (a3 v2 hv2).kr kq2.kr b1.W.lst
  refine ⟨by show 1 ≤ sizeLine; decide, fun t3 n3 => ?_⟩
  have E3 := Ex.new (o := HO.tup [v2]) n3
  have k13 : Kq r H1 _ := kq2.trans (Kq.ex E3)
  refine cat_q (k13.kt b1.W _ _ g1) upd_same (by show ys1.length + 1 ≤ 1000; omega) fun p4 H4 E4 g4 => ?_
  have k04 : Kq r H H4 := (Kq.ex E1).trans (k13.trans (Kq.ex E4))
  refine ⟨.ref lf, b.s3, iV j, hj, _, rfl, ?_⟩
  dsimp only [tNoPart]
  refine slice_q (k04.kt b.W _ _ gu) fun p5 H5 ys5 E5 g5 m5 i5 => ?_
  refine cat_q (E5 _ _ g4) g5 (by rw [List.length_append]; show ys1.length + 1 + ys5.length ≤ 1000; omega) fun p6 H6 E6 g6 => ?_
  have k06 : Kq r H H6 := k04.trans ((Kq.ex E5).trans (Kq.ex E6))
  have E26 := E3.trans (E4.trans (E5.trans E6))
  have b6 := b2.ex E26
  refine ⟨.ref lf, b.s3, iV j, hj, _, rfl, slice_q (k06.kt b.W _ _ gu) fun p7 H7 ys7 E7 g7 m7 i7 => ?_⟩
  have b7 := b6.ex E7
  have k07 : Kq r H H7 := k06.trans (Kq.ex E7)
  obtain ⟨l9, x9, s9, g9, n9, a1', a2', a3'⟩ := id (fl.kr k07.kr b.W.lst)
  refine ⟨.ref r, b.s1, .ref l9, s9, r, a, l9, ns, x9, rfl, b7.W, g9, n9, a1', a2', fun v8 hv8 H8 kq8 W8 => ?_⟩
  have b8 := b7.kq kq8 W8
  have f8 := (a3' v8 hv8).kr kq8.kr b7.W.lst
  refine ⟨by show 1 ≤ sizeLine; decide, fun t9 nt9 => ?_⟩
  have E9 := Ex.new (o := HO.tup [v8]) nt9
  have k79 : Kq r H7 _ := kq8.trans (Kq.ex E9)
  refine cat_q (k79.kt b7.W _ _ g7) upd_same (by show ys7.length + 1 ≤ 1000; omega) fun p10 H10 E10 g10 => ?_
  have E810 := E9.trans E10
  have b10 := b8.ex E810
  have k010 : Kq r H H10 := k07.trans (k79.trans (Kq.ex E10))
  refine ⟨.ref lf, b.s3, lf, us, rfl, .inr (SqT.of (k010.kt b.W _ _ gu)), fun t11 n11 => ?_⟩
  have E11 := Ex.new (o := HO.lst us) n11
  have n11r := b10.W.ne n11
  refine ⟨by show 0 ≤ sizeLine; decide, fun t12 n12 => ?_⟩
  have E12 := Ex.new (o := HO.tup []) n12
  refine ⟨.ref lf, b.s3, times_all (m := 7) ((E11.trans E12) _ _ (k010.kt b.W _ _ gu)) une (by omega) rfl (by decide) (by decide) fun p13 H13 ys13 E13 g13 m13 => ?_⟩
  refine ⟨by show 0 ≤ sizeLine; decide, fun t14 n14 => ?_⟩
  have E14 := Ex.new (o := HO.tup []) n14
  refine ⟨by show 2 ≤ sizeLine; decide, fun t15 n15 => ?_⟩
  have E15 := Ex.new (o := HO.tup [V.int 0, V.ref t14]) n15
  refine ⟨by show 1 ≤ sizeLine; decide, fun t16 n16 => ?_⟩
  have E16 := Ex.new (o := HO.tup [V.ref t15]) n16
  refine times_q (m := 6) upd_same rfl (by decide) (by decide) fun t17 H17 E17 g17 => ?_
  refine ⟨by show 0 ≤ sizeLine; decide, fun t18 n18 => ?_⟩
  have E18 := Ex.new (o := HO.tup []) n18
  refine ⟨by show 1 ≤ sizeLine; decide, fun t19 n19 => ?_⟩
  have E19 := Ex.new (o := HO.tup [V.ref t18]) n19
  refine times_q (m := 8) upd_same rfl (by decide) (by decide) fun t20 H20 E20 g20 => ?_
  refine ⟨by show 2 ≤ sizeLine; decide, fun t21 n21 => ?_⟩
  have E21 := Ex.new (o := HO.tup [V.int 0, V.ref t20]) n21
  refine ⟨by show 1 ≤ sizeLine; decide, fun t22 n22 => ?_⟩
  have E22 := Ex.new (o := HO.tup [V.ref t21]) n22
  refine times_q (m := 6) upd_same rfl (by decide) (by decide) fun t23 H23 E23 g23 => ?_
  refine ⟨by show 9 ≤ sizeLine; decide, fun t24 n24 => ?_⟩
  have E24 := Ex.new (o := HO.lst [V.ref lf, V.ref p6, V.ref p10, V.ref t11, V.non, V.ref t12, V.ref p13, V.ref t17, V.ref t23]) n24
  have y23 := E24
  have y22 := E23.trans y23
  have y21 := E22.trans y22
  have y20 := E21.trans y21
  have y19 := E20.trans y20
  have y18 := E19.trans y19
  have y17 := E18.trans y18
  have y16 := E17.trans y17
  have y15 := E16.trans y16
  have y14 := E15.trans y15
  have y13 := E14.trans y14
  have y12 := E13.trans y13
  have y11 := E12.trans y12
  have E10G := E11.trans y11
  have n24r := (b10.W.ex (E11.trans (E12.trans (E13.trans (E14.trans (E15.trans (E16.trans (E17.trans (E18.trans (E19.trans (E20.trans (E21.trans (E22.trans E23))))))))))))).ne n24
  have bG := b10.ex E10G
  have k8G : Kq r H8 _ := Kq.ex (E810.trans E10G)
  have k2G : Kq r H2 _ := (Kq.ex E26).trans ((Kq.ex E7).trans (kq8.trans k8G))
  have k6G : Kq r H6 _ := (Kq.ex E7).trans (kq8.trans k8G)
  have kG : Kq r H _ := k010.trans (Kq.ex E10G)
  have fuG : ∀ y ∈ us, Fv 5 r _ y := fun y hy => (fu y hy).kr kG.kr b.W.lst
  have em : ∀ {t : Addr} {G : Hp}, G t = some (.tup []) → Fv 1 r G (.ref t) := fun g => Fv.tup (m := 0) g (by simp)
  have two : ∀ {m : Nat} {t : Addr} {G : Hp} {x y : V}, G t = some (.tup [x, y]) → Fv m r G x → Fv m r G y → Fv (m + 1) r G (.ref t) := fun g fx fy => Fv.tup g fun z hz => by
    simp only [List.mem_cons, List.mem_nil_iff, or_false] at hz
    rcases hz with rfl | rfl
    · exact fx
    · exact fy
  have all : ∀ x ∈ [V.ref lf, V.ref p6, V.ref p10, V.ref t11, V.non, V.ref t12, V.ref p13, V.ref t17, V.ref t23], Fv 6 r _ x := fun x hx => by
    simp only [List.mem_cons, List.mem_nil_iff, or_false] at hx
    rcases hx with rfl | rfl | rfl | rfl | rfl | rfl | rfl | rfl | rfl
    · exact Fv.tup (kG.kt b.W _ _ gu) fuG
    · refine Fv.tup (m := 5) (k6G.kt b6.W _ _ g6) fun y hy => ?_
      rcases List.mem_append.mp hy with h | h
      · rcases List.mem_append.mp h with h | h
        · exact fuG y (m1 y h)
        · rw [List.mem_singleton.mp h]
          exact f2.kr k2G.kr W2.lst
      · exact fuG y (m5 y h)
    · refine Fv.tup (m := 5) (E10G _ _ g10) fun y hy => ?_
      rcases List.mem_append.mp hy with h | h
      · exact fuG y (m7 y h)
      · rw [List.mem_singleton.mp h]
        exact f8.kr k8G.kr W8.lst
    · exact Fv.lst n11r (y11 _ _ upd_same) fuG
    · exact Fv.non.mono (by decide)
    · exact (em (y12 _ _ upd_same)).mono (by decide)
    · exact Fv.tup (y13 _ _ g13) fun y hy => fuG y (m13 y hy)
    · exact (Fv.tup (m := 2) (y17 _ _ g17) (fv_rep (two (m := 1) (y15 _ _ upd_same) (.int _) (em (y14 _ _ upd_same))))).mono (by decide)
    · exact (Fv.tup (m := 3) (y23 _ _ g23) (fv_rep (two (m := 2) (y21 _ _ upd_same) ((Fv.int _).mono (by decide)) (Fv.tup (m := 1) (y20 _ _ g20) (fv_rep (em (y18 _ _ upd_same))))))).mono (by decide)
  generalize hX : [V.ref lf, V.ref p6, V.ref p10, V.ref t11, V.non, V.ref t12, V.ref p13, V.ref t17, V.ref t23] = X at all bG kG ⊢
  have gX : (upd H23 t24 (HO.lst X)) t24 = some (.lst X) := upd_same
  refine ⟨t24, rfl, ⟨X, SqL.of gX⟩, for_list (xs := X) (fun i σ G => Bs K tb Pa a ns r hs lf n k d p cc Lf σ G ∧ G t24 = some (.lst X) ∧ ∀ x ∈ X, Fv 6 r G x) ⟨bG, gX, all⟩ (fun i σ G _ w => SqL.of w.2.1) (fun i x σ G hx w => ?_) (fun σ G w => post _ _ ⟨r, hs, lf, n, k, d, p, cc, Lf, w.1, True.intro⟩)⟩
  clear E24 y23 y22 y21 y20 y19 y18 y17 y16 y15 y14 y13 y12 y11 E10G k8G k2G k6G fuG hX
  obtain ⟨b, gl, fx⟩ := w
  have b9 := b.set (i := 9) (x := some x) (by decide)
  have s9 := gn (σ := σ) (v := x) b.len (show 9 < 20 by decide)
  obtain ⟨e, dv, fe⟩ := (fx x (List.mem_of_getElem? hx)).fine (by decide)
  refine ⟨.ref hs, b9.s2, x, s9, ⟨⟨r, hs, n, k, d, p, cc, x, e, rfl, b.hh, dv, fe, b.W.lst, fun G1 E1 => ?_⟩⟩⟩
  have b10 := (b9.ex E1).set (i := 10) (x := some (wV (wrongL d p e))) (by decide)
  have s9' := gs (i := 10) (x := some (wV (wrongL d p e))) s9 (by decide)
  have s10 := gn (σ := σ.set 9 (some x)) (v := wV (wrongL d p e)) b9.len (show 10 < 20 by decide)
  have dv1 := Hd.Dv.kr (Kr.ex E1) (lst_nt b.W.lst) e x dv
  refine ⟨.ref hs, b10.s2, x, s9', hs, n, k, d, p, cc, x, _, rfl, b10.hh, dv_life dv1, b10.T.m, b10.T.s, fun G2 k2 => ⟨wV (wrongL d p e), s10, rfl, alike_bl ?_ fun G3 E3 => ⟨true, rfl, iteF ?_⟩⟩⟩
  · rw [wV_none, wrongL_ok]
  have k13 : Ks K G1 G3 := k2.trans (Ks.ex E3)
  have b3 := b10.kl k13 (tabS_kl L.na b10.T.l k13)
  have dv3 := Hd.Dv.kr (Kl.kr k13) (lst_nt b10.W.lst) e x dv1
  have kr03 : Kr r G G3 := (Kr.ex E1).trans (Kl.kr k13)
  have go : ∀ {G' : Hp}, Bs K tb Pa a ns r hs lf n k d p cc Lf ((σ.set 9 (some x)).set 10 (some (wV (wrongL d p e)))) G' → Kr r G3 G' → (Bs K tb Pa a ns r hs lf n k d p cc Lf ((σ.set 9 (some x)).set 10 (some (wV (wrongL d p e)))) G' ∧ G' t24 = some (.lst X) ∧ ∀ x ∈ X, Fv 6 r G' x) := fun bb kr => by
    have kr' := kr03.trans kr
    exact ⟨bb, kr' _ _ n24r (fun ps z => by cases z) gl, fun y hy => (fx y hy).kr kr' b.W.lst⟩
  refine ⟨wV (wrongL d p e), s10, rfl, _, rfl, ?_⟩
  rw [wV_none]
  rcases (show wrongL d p e = none ∨ ∃ o, wrongL d p e = some o by cases wrongL d p e; exact .inl rfl; exact .inr ⟨_, rfl⟩) with hw | ⟨o, hw⟩
  · rw [show (wrongL d p e).isNone = true by rw [hw] <;> rfl]
    refine iteF (iteF ⟨wV (wrongL d p e), s10, rfl, _, rfl, ?_⟩)
    rw [wV_none, show (wrongL d p e).isNone = true by rw [hw] <;> rfl]
    exact iteF (iteF (go b3 (fun _ _ _ _ h => h)))
  · rw [show (wrongL d p e).isNone = false by rw [hw] <;> rfl]
    refine iteT (told_go (K := K) (er := .life o) (q := lawQ) b3.T.l (fun G4 Qn E k4 T4 hE => ?_) fun G5 p5 k5 T5 g5 => ?_)
    · refine ⟨.ref hs, b3.s2, x, s9', ?_⟩
      have b4 := b3.kl k4 T4
      exact told_one (Qn := Qn) L.na (told_up (y := .int 0) b4.hh (Hd.Dv.kr (Kl.kr k4) (lst_nt b3.W.lst) e x dv3) b4.W.lst b4.T.m b4.T.s hw) k4 T4 hE
    · refine ⟨wV (wrongL d p e), s10, by show 2 ≤ sizeLine; decide, fun p6 n6 => ?_⟩
      have E6 := Ex.new (o := HO.tup [V.str "life", wV (wrongL d p e)]) n6
      refine told_ne (er := .life o) (E6 _ _ g5) (upd_same.trans (by rw [hw, wV_some] <;> rfl)) ⟨_, rfl, iteF ?_⟩
      have b5 := (b3.kl k5 T5).ex E6
      have kr5 : Kr r G3 _ := (Kl.kr k5).trans (Kr.ex E6)
      have dv5 := Hd.Dv.kr kr5 (lst_nt b3.W.lst) e x dv3
      refine ⟨wV (wrongL d p e), s10, rfl, _, rfl, ?_⟩
      rw [wV_none, show (wrongL d p e).isNone = false by rw [hw] <;> rfl]
      refine iteT (told_go (K := K) (er := .life o) (q := lawQ) b5.T.l (fun G4 Qn E k4 T4 hE => ?_) fun G7 p7 k7 T7 g7 => ?_)
      · refine ⟨.ref hs, b5.s2, x, s9', ?_⟩
        have b4 := b5.kl k4 T4
        exact told_one (Qn := Qn) L.na (told_rows b4.hh (Hd.Dv.kr (Kl.kr k4) (lst_nt b5.W.lst) e x dv5) b4.W.lst b4.T.m b4.T.s hw) k4 T4 hE
      · refine ⟨wV (wrongL d p e), s10, by show 2 ≤ sizeLine; decide, fun p8 n8 => ?_⟩
        have E8 := Ex.new (o := HO.tup [V.str "life", wV (wrongL d p e)]) n8
        refine told_ne (er := .life o) (E8 _ _ g7) (upd_same.trans (by rw [hw, wV_some] <;> rfl)) ⟨_, rfl, iteF ?_⟩
        exact go ((b5.kl k7 T7).ex E8) (kr5.trans ((Kl.kr k7).trans (Kr.ex E8)))
end
end K01

set_option maxHeartbeats 4000000
namespace K01
open PySem PySem.Spec PyProof.Rows L2 Hd Evl
/-! ### a drawn life is good -/
theorem numD_nat {i : Nat} {hi : Int} (h : (i : Int) ≤ hi) : numD (intP i) 0 hi = true := by
  show (decide ((0 : Int) ≤ (i : Int)) && decide ((i : Int) ≤ hi)) = true
  rw [decide_eq_true (show (0 : Int) ≤ (i : Int) by omega), decide_eq_true h] <;> rfl
theorem ok_deedD {d p u : Nat} {x : DeedT} (h : OkDeed u p x) (l : u < d) : deedD d p (deedP x) = true := by
  obtain ⟨h1, h2, h3⟩ := h
  show (numD (intP x.1) 0 ((d : Int) - 1) && (numD (intP x.2.1) 0 ((p : Int) - 1) && numD (intP x.2.2) 0 9)) = true
  rw [numD_nat (by omega), numD_nat (by omega), numD_nat (by omega)] <;> rfl
theorem all_id {l : List Bool} (h : ∀ x ∈ l, x = true) : l.all id = true := List.all_eq_true.mpr fun x hx => h x hx
theorem ok_momD {d p u : Nat} {m : MomT} (h : OkMom u p m) (l : u < d) : momD d p (momP m) = true := by
  show (decide ((m.map deedP).length ≤ 6) && ((m.map deedP).map (deedD d p)).all id) = true
  rw [decide_eq_true (show (m.map deedP).length ≤ 6 by have := h.1; rw [List.length_map]; omega), all_id fun x hx => ?_] <;> try rfl
  obtain ⟨y, hy, rfl⟩ := List.mem_map.mp hx
  obtain ⟨z, hz, rfl⟩ := List.mem_map.mp hy
  exact ok_deedD (h.2 z hz) l
theorem ok_storyD {d p u : Nat} {s : StoryT} (h : ∀ m ∈ s, OkMom u p m) (l : u < d) (b : s.length ≤ 40) : okS (storyD d p (storyP s)) = true := by
  have e : storyD d p (storyP s) = some ((s.map momP).map (momD d p)) := if_pos (by rw [List.length_map]; exact b)
  rw [e]
  refine all_id fun x hx => ?_
  obtain ⟨y, hy, rfl⟩ := List.mem_map.mp hx
  obtain ⟨z, hz, rfl⟩ := List.mem_map.mp hy
  exact ok_momD (h z hz) l
theorem ok_sessD {d p : Nat} {s : Nat × StoryT} (h : OkSess d p s) (b : s.2.length ≤ 40) : sessD d p (sessP s) = true := by
  have e1 := ok_storyD (d := d) h.2 h.1 b
  have e2 : okS (storyD (s.1 + 1) p (storyP s.2)) = true := ok_storyD h.2 (Nat.lt_succ_self _) b
  rw [story_eq h.1, e1, Bool.true_and] at e2
  show ((numD (intP s.1) 0 ((d : Int) - 1) && okS (storyD d p (storyP s.2))) && storyLowD (intD (intP s.1)) (storyP s.2)) = true
  rw [numD_nat (by have := h.1; omega), e1]
  exact e2
theorem life_good {d p : Nat} {L : LifeT} (h : OkLife d p 6 L) : ∃ l, lifeD d p (lifeP L) = some l ∧ GoodL l l.length := by
  refine ⟨(L.map sessP).map fun s => (sessD d p s, sessLen s), if_pos ?_, ?_⟩
  · have := h.one
    have := h.three
    rw [List.length_map]
    omega
  · have lens : ((L.map sessP).map fun s => (sessD d p s, sessLen s)).map (·.2) = L.map fun s => s.2.length := by
      rw [List.map_map, List.map_map]
      refine List.map_congr_left fun s _ => ?_
      show ((s.2.map momP).length) = s.2.length
      rw [List.length_map]
    unfold GoodL
    rw [List.take_length, lens]
    refine ⟨List.all_eq_true.mpr fun x hx => ?_, ?_⟩
    · obtain ⟨y, hy, rfl⟩ := List.mem_map.mp hx
      obtain ⟨z, hz, rfl⟩ := List.mem_map.mp hy
      have := len_le hz
      have := h.len
      exact ok_sessD (h.sess z hz) (by omega)
    · have := h.len
      unfold lenT at this
      omega
section
variable {K : PySem.W.Frag} {H : Hp} {cs : Cs} {tb : Tb} {r hs lf : Addr} {n k d p c : Nat} {L : LifeT}
theorem pass_life (hh : HouseAt H hs n k d p c) (tv : Tv H (.ref lf) (lifeP L)) (ok : OkLife d p 6 L) (tm : GxR.TabG H tb.m) (ts : GxR.TabG H tb.s) : Pass K (spLife K cs.L tb.m tb.s) [.ref hs, .ref lf] H := by
  obtain ⟨l, e, g⟩ := life_good ok
  have lv := dv_life (K := K) (d := d) (p := p) (Tv.dv (lf + 1) _ _ tv)
  rw [e] at lv
  exact p_life hh ⟨lv, tm, ts⟩ g
theorem sess_of (tv : Tv H (.ref lf) (lifeP L)) (ok : OkLife d p 6 L) (tn : GxR.TabG H tb.n) : SessOf H tb lf (lenT L) := by
  obtain ⟨ss, hl, all⟩ := tv_ref tv
  refine ⟨⟨ss, L.map fun s => s.2.length, hl, ?_, rfl, by have := ok.len; omega⟩, tn⟩
  clear hl tv ok
  induction L generalizing ss with
  | nil =>
    cases all
    exact .nil
  | cons x L ih =>
    cases all with
    | cons h1 h2 =>
      obtain ⟨t, u, us, rfl, g1, g2, g3⟩ := tv_sess h1
      exact .cons ⟨t, _, u, us, rfl, g1, g2, by rw [g3.len, List.length_map]⟩ (ih _ h2)
end
end K01

set_option maxHeartbeats 4000000
namespace K01
open PySem PySem.Spec PyProof.Rows L2 Hd Evl
theorem alike_int {K : PySem.W.Frag} {H : Hp} {x y : Int} {Q : VK} {E : XK} (e : x = y) (q : ∀ H', Ex H H' → Q (.bl true) H') : spAlike K 1 [.int x, .int y] H Q E := by
  subst e
  exact (⟨⟨_, _, .int x, rfl, .int _, .int _, by simp [PyData.depth], by simp [wideD], q⟩⟩ : AlikeP K 0 _ H Q E)
section
variable {P : Program} {w : World} {K : PySem.W.Frag} {mg : Str → Option Value} {base : Heap} {cs : Cs} {tb : Tb} {f c Pa a : Addr} {ns : List Int} {A : Around} {outer : List Env} {s : Shared} {H0 : Hp} {E0 : XK}
theorem st12 (L : Lw P w K mg base cs tb Pa) (hr : LRoom A s f c) : Does (LX P w K mg base f c A outer s H0 E0) (lawSt 12) (AtA K tb Pa a ns fun _ _ _ _ _ _ _ _ => True) (AtA K tb Pa a ns fun _ _ _ _ _ L σ _ => IntAt 13 σ (lenT L)) := by
  refine ⟨_, ps_set (i := 13) sc_law.nd rfl (Or.inl rfl) (pe_call L.ln.G (hr.mono (by decide)) (by rfl) L.ln.m L.ln.k L.ln.b .nil pass0 (pa_cons (pv 3) pa_nil)), fun D σ H pre post => ?_⟩
  obtain ⟨r, hs, lf, n, k, d, p, c, Lf, b, _⟩ := pre
  have l3 := b.ok.three
  have l6 := b.ok.len
  refine ⟨.ref lf, b.s3, lf, Lf, rfl, b.tv, fun s hs => ?_, by omega, fun H' e => post _ _ ⟨r, hs, lf, n, k, d, p, c, Lf, (b.ex e).set (by decide), gn b.len (by decide)⟩⟩
  have := len_le hs
  omega
theorem st13 (L : Lw P w K mg base cs tb Pa) (hr : LRoom A s f c) : Does (LX P w K mg base f c A outer s H0 E0) (lawSt 13) (AtA K tb Pa a ns fun _ _ _ _ _ L σ _ => IntAt 13 σ (lenT L)) (AtA K tb Pa a ns fun _ n k _ _ L σ _ => IntAt 13 σ (lenT L) ∧ IntAt 14 σ 1 ∧ IntAt 15 σ (nck n k)) := by
  refine ⟨_, ps_par (i := 14) (j := 15) (by rfl) sc_law.nd rfl rfl (by decide) rfl rfl (pa_cons pe_int (pa_cons (pe_callB call_len_seq (by rfl) L.B.len (by decide +kernel) (pa_cons (pe_call L.se.G (hr.mono (by decide)) (by rfl) L.se.m L.se.k L.se.b .nil pass0 (pa_cons (pe_ix ix_tup (pv 2) pe_int (fun _ _ => rfl)) (pa_cons (pe_ix ix_tup (pv 2) pe_int (fun _ _ => rfl)) pa_nil))) pa_nil)) pa_nil)) (by rfl), fun D σ H pre post => ?_⟩
  obtain ⟨r, hs, lf, n, k, d, p, c, Lf, b, hm⟩ := pre
  have q1 := b.hh.n12
  have q2 := b.hh.kn
  refine ⟨.ref hs, b.s2, hs, _, _, .int n, rfl, rfl, SqT.of b.hh.at_, atI_nat (j := 0) rfl, .ref hs, b.s2, hs, _, _, .int k, rfl, rfl, SqT.of b.hh.at_, atI_nat (j := 1) rfl, n, k, rfl, q1, q2, fun l vs H2 nl e g q => ⟨l, vs, rfl, .inl (SqL.of g), ?_⟩⟩
  have len : vs.length = nck n k := by rw [q.len, setsN_len]
  rw [len]
  refine ⟨_, _, rfl, post _ _ ⟨r, hs, lf, n, k, d, p, c, Lf, ((b.ex e).set (by decide)).set (by decide), (IntAt.set (IntAt.set hm (by decide)) (by decide)), gs (gn b.len (by decide)) (by decide), gn (by rw [List.length_set]; exact b.len) (by decide)⟩⟩
theorem st14 (L : Lw P w K mg base cs tb Pa) (hr : LRoom A s f c) : Does (LX P w K mg base f c A outer s H0 E0) (lawSt 14) (AtA K tb Pa a ns fun _ n k _ _ L σ _ => IntAt 13 σ (lenT L) ∧ IntAt 14 σ 1 ∧ IntAt 15 σ (nck n k)) (AtA K tb Pa a ns fun _ n k _ _ L σ _ => IntAt 13 σ (lenT L) ∧ IntAt 14 σ (nck n k ^ lenT L) ∧ IntAt 15 σ (nck n k)) := by
  refine ⟨_, ps_for (passes_of rfl) rfl (pi_range1 (by rfl) L.B.range (pa_cons (pv 13) pa_nil)) (pg_name (i := 7) sc_law.nd rfl (Or.inl rfl)) (pss_one (ps_set (i := 14) sc_law.nd rfl (Or.inl rfl) (pe_op op_mul (pv 14) (pv 15)))), fun D σ H pre post => ?_⟩
  obtain ⟨r, hs, lf, n, k, d, p, c, Lf, b, hm, h1, ht⟩ := pre
  have l6 := b.ok.len
  have q1 := b.hh.n12
  have q2 := b.hh.kn
  have nl := nck_le (n := n) (k := k) q1 (by omega)
  refine ⟨iV (lenT Lf), hm, lenT Lf, rfl, by omega, by omega, for_range (lo := 0) (n := lenT Lf) (fun i σ G => Bs K tb Pa a ns r hs lf n k d p c Lf σ G ∧ IntAt 13 σ (lenT Lf) ∧ IntAt 14 σ (nck n k ^ i) ∧ IntAt 15 σ (nck n k)) ⟨b, hm, by rw [Nat.pow_zero]; exact h1, ht⟩ (fun i σ G hi w => ?_) (fun σ G w => post _ _ ⟨r, hs, lf, n, k, d, p, c, Lf, w⟩)⟩
  obtain ⟨b, hm, h1, ht⟩ := w
  refine ⟨_, gs h1 (by decide), _, gs ht (by decide), _, _, rfl, rfl, .inr ⟨by omega, by omega⟩, (b.set (by decide)).set (by decide), IntAt.set (IntAt.set hm (by decide)) (by decide), ?_, IntAt.set (IntAt.set ht (by decide)) (by decide)⟩
  have e : ((nck n k ^ i : Nat) : Int) * ((nck n k : Nat) : Int) = ((nck n k ^ (i + 1) : Nat) : Int) := by rw [Nat.pow_succ, Int.natCast_mul]
  show (_ : L2.St)[14]? = some (some (V.int _))
  rw [← e]
  exact gn (by rw [List.length_set]; exact b.len) (by decide)
theorem st15 (L : Lw P w K mg base cs tb Pa) (hr : LRoom A s f c) : Does (LX P w K mg base f c A outer s H0 E0) (lawSt 15) (AtA K tb Pa a ns fun _ n k _ _ L σ _ => IntAt 13 σ (lenT L) ∧ IntAt 14 σ (nck n k ^ lenT L) ∧ IntAt 15 σ (nck n k)) (AtA K tb Pa a ns fun _ n k _ _ L σ _ => IntAt 13 σ (lenT L) ∧ IntAt 15 σ (nck n k)) := by
  refine ⟨_, ps_if (pt_not (pt_val (pe_call (L.al 1).G (hr.mono (by decide)) (by rfl) (L.al 1).m (L.al 1).k (L.al 1).b .nil pass0 (pa_cons (pe_call L.rc.G (hr.mono (by decide)) (by rfl) L.rc.m L.rc.k L.rc.b .nil (passX (E := E0) rfl rfl rfl rfl) (pa_cons (pv 2) (pa_cons (pv 3) pa_nil))) (pa_cons (pv 14) pa_nil))))) (pss_one (ps_ret pe_bl)) pss_nil, fun D σ H pre post => ?_⟩
  obtain ⟨r, hs, lf, n, k, d, p, c, Lf, b, hm, h1, ht⟩ := pre
  have l6 := b.ok.len
  have q1 := b.hh.n12
  have q2 := b.hh.kn
  have nl := nck_le (n := n) (k := k) q1 (by omega)
  refine ⟨.ref hs, b.s2, .ref lf, b.s3, .ref hs, .ref lf, rfl, p_house b.hh _ _ fun H1 k1 => ?_⟩
  have b1 := b.kl k1 (tabS_kl L.na b.T.l k1)
  refine pass_life b1.hh b1.tv b1.ok b1.T.m b1.T.s _ _ fun H2 k2 => ?_
  have b2 := b1.kl k2 (tabS_kl L.na b1.T.l k2)
  refine ⟨.ref hs, none, rfl, b2.hh.wr, fun a' n' k' d' p' c' e hh' => ?_, fun x e => by cases e⟩
  cases e
  have ei := hh'.at_.symm.trans b2.hh.at_
  simp only [Option.some.injEq, HO.tup.injEq, List.cons.injEq, V.int.injEq, and_true] at ei
  obtain ⟨en, ek, _⟩ := ei
  obtain rfl : n' = n := by omega
  obtain rfl : k' = k := by omega
  obtain ⟨ss, ls, g1, g2, g3, g4⟩ := (sess_of b2.tv b2.ok b2.T.n).go
  refine ⟨lf, ss, ls, rfl, g1, g2, by omega, b2.T.n, fun H3 k3 _ => ?_⟩
  have b3 := b2.kl k3 (tabS_kl L.na b2.T.l k3)
  rw [g3]
  refine ⟨nck n' k', lenT Lf, rfl, by omega, by omega, iV (nck n' k' ^ lenT Lf), h1, alike_int rfl fun H4 e4 => ⟨true, rfl, iteF (post _ _ ⟨r, hs, lf, n', k', d, p, c, Lf, b3.ex e4, hm, ht⟩)⟩⟩
/-- the coins of the life -/
def CoinsAt (n k m : Nat) (σ : L2.St) (H : Hp) : Prop := ∃ (t : Addr) (cs : List Nat), σ[16]? = some (some (.ref t)) ∧ H t = some (.tup (cs.map iV)) ∧ cs.length = m ∧ ∀ x ∈ cs, x < nck n k
theorem CoinsAt.kt {n k m : Nat} {σ : L2.St} {H H1 : Hp} (h : CoinsAt n k m σ H) (e : Kt H H1) : CoinsAt n k m σ H1 := let ⟨t, cs, h1, h2, h3⟩ := h; ⟨t, cs, h1, e _ _ h2, h3⟩
theorem CoinsAt.set {n k m i : Nat} {σ : L2.St} {H : Hp} {x : Option V} (h : CoinsAt n k m σ H) (e : i ≠ 16) : CoinsAt n k m (σ.set i x) H := let ⟨t, cs, h1, h2⟩ := h; ⟨t, cs, gs h1 e, h2⟩
theorem st16 (L : Lw P w K mg base cs tb Pa) (hr : LRoom A s f c) : Does (LX P w K mg base f c A outer s H0 E0) (lawSt 16) (AtA K tb Pa a ns fun _ n k _ _ L σ _ => IntAt 13 σ (lenT L) ∧ IntAt 15 σ (nck n k)) (AtA K tb Pa a ns fun _ n k _ _ L σ H => IntAt 13 σ (lenT L) ∧ IntAt 15 σ (nck n k) ∧ CoinsAt n k (lenT L) σ H) := by
  refine ⟨_, ps_set (i := 16) sc_law.nd rfl (Or.inl rfl) (pe_call L.co.G (hr.mono (by decide)) (by rfl) L.co.m L.co.k L.co.b .nil pass0 (pa_cons (pv 1) (pa_cons (pv 2) (pa_cons (pv 13) pa_nil)))), fun D σ H pre post => ?_⟩
  obtain ⟨r, hs, lf, n, k, d, p, c, Lf, b, hm, ht⟩ := pre
  have l6 := b.ok.len
  refine ⟨.ref r, b.s1, .ref hs, b.s2, iV (lenT Lf), hm, ⟨⟨r, a, hs, ns, n, k, d, p, c, lenT Lf, rfl, b.W, b.hh, by omega, fun t cs H' g l al kq W' => post _ _ ⟨r, hs, lf, n, k, d, p, c, Lf, (b.kq kq W').set (by decide), IntAt.set hm (by decide), IntAt.set ht (by decide), t, cs, gn b.len (by decide), g, l, al⟩⟩⟩⟩
end
end K01

set_option maxHeartbeats 4000000
namespace K01
open PySem PySem.Spec PyProof.Rows L2 Hd Evl
/-! ### wrong coins -/
section
variable {K : PySem.W.Frag} {H : Hp} {a : Addr} {xs : List V} {Q : VK} {i : Nat}
theorem slice_drop (h : H a = some (.tup xs)) (q : ∀ p H', Ex H H' → H' p = some (.tup (xs.drop i)) → Q (.ref p) H') : rSlA K (.ref a) (some (i : Int)) none H Q := by
  refine ⟨a, xs, rfl, SqT.of h, fun w => q a H (Ex.refl H) ?_, fun _ p np => q p _ (Ex.new np) ?_⟩
  · have := w.1
    rw [HT.sIx_nat] at this
    rw [h]
    congr 2
    rcases Nat.le_total i xs.length with z | z
    · rw [show i = 0 by omega, List.drop_zero]
    · have e : xs = [] := List.length_eq_zero_iff.mp (by omega)
      rw [e, List.drop_nil]
  · rw [upd_same]
    congr 2
    unfold cutV
    rw [HT.sIx_nat, HT.sIx_none]
    rcases Nat.le_total i xs.length with z | z
    · rw [Nat.min_eq_left z]
      exact List.take_of_length_le (by rw [List.length_drop]; omega)
    · rw [Nat.min_eq_right z, List.drop_of_length_le z, List.drop_of_length_le (Nat.le_refl _), List.take_nil]
theorem slice_take (h : H a = some (.tup xs)) (q : ∀ p H', Ex H H' → H' p = some (.tup (xs.take i)) → Q (.ref p) H') : rSlA K (.ref a) none (some (i : Int)) H Q := by
  refine ⟨a, xs, rfl, SqT.of h, fun w => q a H (Ex.refl H) ?_, fun _ p np => q p _ (Ex.new np) ?_⟩
  · have := w.2
    rw [HT.sIx_nat] at this
    rw [h, List.take_of_length_le (by omega)]
  · rw [upd_same]
    congr 2
    unfold cutV
    rw [HT.sIx_nat, HT.sIx_none, List.drop_zero, Nat.sub_zero]
    rcases Nat.le_total i xs.length with z | z
    · rw [Nat.min_eq_left z]
    · rw [Nat.min_eq_right z, List.take_of_length_le z, List.take_of_length_le (Nat.le_refl _)]
end
section
variable {K : PySem.W.Frag} {H : Hp} {cs : Cs} {tb : Tb} {hs lf : Addr} {n k d p c m : Nat} {v y : V} {L : LifeT} {o : Option Nat}
theorem t_coinsN (hh : HouseAt H hs n k d p c) (S : SessOf H tb lf m) (cv : CoinsV K H (nck n k) m v none) : Told K cs (spCoins K cs.C tb.n) [.ref hs, .ref lf, v] H (.coins none) := fun Q E h => by
  obtain ⟨ss, ls, h1, h2, h3, h4⟩ := S.go
  subst h3
  exact ⟨hs, n, k, d, p, c, lf, ss, ls, v, none, rfl, hh, h1, h2, Nat.le_trans h4 (by decide), cv, S.n, fun _ dd H' k' _ hd => h _ _ _ k' ⟨rfl, ⟨dd, rfl, hd⟩, fun i z => by cases z⟩, fun bs' el => by cases el⟩
theorem told_looks (hh : HouseAt H hs n k d p c) (tv : Tv H (.ref lf) (lifeP L)) (ok : OkLife d p 6 L) (tm : GxR.TabG H tb.m) (ts : GxR.TabG H tb.s) (t : ∀ H', Ks K H H' → Told K cs (spCoins K cs.C tb.n) [.ref hs, .ref lf, v] H' (.coins o)) : Told K cs (sp_looks K cs tb) [.ref hs, .str "true", .ref lf, v, y] H (.coins o) := fun Q E h =>
  ⟨_, _, _, _, _, rfl, _, _, _, _, rfl, p_house hh _ _ fun H1 k1 => pass_life (hh.ks k1) (tv.mv fun _ _ g => k1.t _ _ g) ok (k1.g _ tm) (k1.g _ ts) _ _ fun H2 k2 => p_way (by decide +kernel) _ _ fun H3 k3 =>
    t H3 ((k1.trans k2).trans k3) _ E fun cls dd H' k' i => h cls dd H' (((k1.trans k2).trans k3).trans k') i⟩
end
section
variable {P : Program} {w : World} {K : PySem.W.Frag} {mg : Str → Option Value} {base : Heap} {cs : Cs} {tb : Tb} {f c Pa a : Addr} {ns : List Int} {A : Around} {outer : List Env} {s : Shared} {H0 : Hp} {E0 : XK}
theorem st17 (L : Lw P w K mg base cs tb Pa) (TB : LamX.TabB base mg c Pa) (hr : LRoom A s f c) : Does (LX P w K mg base f c A outer s H0 E0) (lawSt 17) (AtA K tb Pa a ns fun _ n k _ _ L σ H => IntAt 13 σ (lenT L) ∧ IntAt 15 σ (nck n k) ∧ CoinsAt n k (lenT L) σ H) (AtA K tb Pa a ns fun _ n k _ _ L σ H => IntAt 13 σ (lenT L) ∧ IntAt 15 σ (nck n k) ∧ CoinsAt n k (lenT L) σ H) := by
  have un : (A.deeper (envOfC "law" (defScope s_law) s.heap.objs.size f (.ref c))).units + 64 < cLine := by have := hr.un; omega
  refine ⟨_, ps_for (passes_of rfl) rfl (pi_list (pe_lst (pa_cons pe_non (pa_cons (pe_callTy call_list_of (by rfl) L.B.list (by decide +kernel) (pa_cons (pv 16) pa_nil)) (pa_cons (pe_op op_catA (pv 16) (pe_tup (pa_cons pe_int pa_nil))) (pa_cons (pe_op op_catA (pe_slice sl_tupA (pv 16) (po_some pe_int) po_none) (pe_tup (pa_cons pe_int (pa_cons pe_int pa_nil)))) pa_nil)))))) (pg_name (i := 9) sc_law.nd rfl (Or.inr rfl)) (pss_one (ps_if (pt_cmpR (op_neD un) (pe_told L.W lawQ TB rfl rfl (by rfl) (k := 11) (hr.mono (by decide)) (LamX.lamS_by (by rfl)) (fun A' outer' s' H' E' f' c' hr' => pe_call L.lo.G hr' (by rfl) L.lo.m L.lo.k L.lo.b .nil (passX (E := E') rfl rfl rfl rfl) (pa_cons (pv 2) (pa_cons pe_str (pa_cons (pv 3) (pa_cons (pv 9) (pa_cons pe_int pa_nil)))))) (by rfl) (fun _ _ _ _ _ => by rfl)) (pe_tup (pa_cons pe_str (pa_cons pe_str pa_nil))) (nomark _)) (pss_one (ps_ret pe_bl)) pss_nil)), fun D σ H pre post => ?_⟩
  obtain ⟨r, hs, lf, n, k, d, p, cc, Lf, b, hm, ht, hc⟩ := pre
  obtain ⟨tc, cl, s16, gc, lc, ac⟩ := id hc
  have l6 := b.ok.len
  refine ⟨.ref tc, s16, tc, _, rfl, .inr (SqT.of gc), fun t1 n1 => ?_⟩
  have e1 := Ex.new (o := HO.lst (cl.map iV)) n1
  refine ⟨.ref tc, s16, by show 1 ≤ sizeLine; decide, fun t2 n2 => ?_⟩
  have e2 := Ex.new (o := HO.tup [V.int 0]) n2
  refine cat_q ((e1.trans e2) _ _ gc) upd_same (by rw [List.length_map, lc]; show lenT Lf + 1 ≤ 1000; omega) fun p3 H3 e3 g3 => ?_
  have x3 := e1.trans (e2.trans e3)
  refine ⟨.ref tc, s16, _, rfl, ?_⟩
  dsimp only [tNoPart]
  refine slice_drop (i := 1) (x3 _ _ gc) fun p4 H4 e4 g4 => ?_
  refine ⟨by show 2 ≤ sizeLine; decide, fun t5 n5 => ?_⟩
  have e5 := Ex.new (o := HO.tup [V.int 0, V.int 0]) n5
  refine cat_q (e5 _ _ g4) upd_same (by rw [List.length_drop, List.length_map, lc]; show lenT Lf - 1 + 2 ≤ 1000; omega) fun p6 H6 e6 g6 => ?_
  refine ⟨by show 4 ≤ sizeLine; decide, fun t7 n7 => ?_⟩
  have e7 := Ex.new (o := HO.lst [V.non, V.ref t1, V.ref p3, V.ref p6]) n7
  have y3 := e4.trans (e5.trans (e6.trans e7))
  have eN := x3.trans y3
  have bG := b.ex eN
  have hcG := hc.kt (Kt.ex eN)
  have all : ∀ x ∈ [V.non, V.ref t1, V.ref p3, V.ref p6], CoinsV K _ (nck n k) (lenT Lf) x none := fun x hx => by
    simp only [List.mem_cons, List.mem_nil_iff, or_false] at hx
    rcases hx with rfl | rfl | rfl | rfl
    · exact .out .non (by decide)
    · exact .out (.lst ((e2.trans (e3.trans y3)) _ _ upd_same)) (by decide)
    · exact .len (y3 _ _ g3) (by rw [List.length_append, List.length_map, lc]; show lenT Lf + 1 ≠ lenT Lf; omega)
    · exact .len (e7 _ _ g6) (by rw [List.length_append, List.length_drop, List.length_map, lc]; show lenT Lf - 1 + 2 ≠ lenT Lf; omega)
  generalize hX : [V.non, V.ref t1, V.ref p3, V.ref p6] = X at all bG hcG ⊢
  refine ⟨t7, rfl, ⟨X, SqL.of upd_same⟩, for_list (xs := X) (fun i σ G => Bs K tb Pa a ns r hs lf n k d p cc Lf σ G ∧ (IntAt 13 σ (lenT Lf) ∧ IntAt 15 σ (nck n k) ∧ CoinsAt n k (lenT Lf) σ G) ∧ G t7 = some (.lst X) ∧ ∀ x ∈ X, CoinsV K G (nck n k) (lenT Lf) x none) ⟨bG, ⟨hm, ht, hcG⟩, upd_same, all⟩ (fun i σ G _ w => SqL.of w.2.2.1) (fun i x σ G hx w => ?_) (fun σ G w => post _ _ ⟨r, hs, lf, n, k, d, p, cc, Lf, w.1, w.2.1⟩)⟩
  obtain ⟨b, ⟨hm, ht, hc⟩, gl, fx⟩ := w
  have b9 := b.set (i := 9) (x := some x) (by decide)
  have s9 := gn (σ := σ) (v := x) b.len (show 9 < 20 by decide)
  have cv := fx x (List.mem_of_getElem? hx)
  refine told_go (K := K) (er := .coins none) (q := lawQ) b9.T.l (fun G4 Qn E k4 T4 hE => ?_) fun G5 p5 k5 T5 g5 => ?_
  · refine ⟨.ref hs, b9.s2, .ref lf, b9.s3, x, s9, ?_⟩
    have b4 := b9.kl k4 T4
    exact told_one (Qn := Qn) L.na (told_looks (y := .int 0) b4.hh b4.tv b4.ok b4.T.m b4.T.s fun H' k' => t_coinsN (b4.hh.ks k') (sess_of (b4.tv.mv fun _ _ g => k'.t _ _ g) b4.ok (k'.g _ b4.T.n)) ((cv.kw k4.w).kw k'.w)) k4 T4 hE
  · refine ⟨by show 2 ≤ sizeLine; decide, fun p6 n6 => ?_⟩
    have E6 := Ex.new (o := HO.tup [V.str "coins", V.str "none"]) n6
    refine told_ne (er := .coins none) (E6 _ _ g5) (upd_same.trans rfl) ⟨_, rfl, iteF ?_⟩
    have k56 : Kl (S1 K Pa) G _ := k5.trans (Kl.ex E6)
    exact ⟨(b9.kl k5 T5).ex E6, ⟨IntAt.set hm (by decide), IntAt.set ht (by decide), (hc.kt fun _ _ g => k56.t _ _ g).set (by decide)⟩, k56.l _ _ gl, fun y hy => (fx y hy).kw k56.w⟩
end
end K01

set_option maxHeartbeats 4000000
namespace K01
open PySem PySem.Spec PyProof.Rows L2 Hd Evl
theorem coin_pair {K : PySem.W.Frag} {H : Hp} {t : Nat} : ∀ {ys : List V}, (∀ y ∈ ys, ∃ s, KindV K H y s) → Paired (CoinV K H t) ys (ys.map fun v => isNum v 0 ((t : Int) - 1))
  | [], _ => .nil
  | y :: ys, h => .cons (let ⟨s, q⟩ := h y List.mem_cons_self; .mk q) (coin_pair fun z hz => h z (List.mem_cons_of_mem _ hz))
/-- the coins with a wrong one at i -/
theorem wrong_at {t i : Nat} {cs : List Nat} {v : V} (hi : i < cs.length) (ac : ∀ x ∈ cs, x < t) (hv : isNum v 0 ((t : Int) - 1) = false) :
    (((cs.map iV).take i ++ [v] ++ (cs.map iV).drop (i + 1)).map fun v => isNum v 0 ((t : Int) - 1))[i]? = some false ∧ ((((cs.map iV).take i ++ [v] ++ (cs.map iV).drop (i + 1)).map fun v => isNum v 0 ((t : Int) - 1)).take i).all id = true := by
  have l : ((cs.map iV).take i).length = i := by rw [List.length_take, List.length_map]; omega
  constructor
  · rw [List.getElem?_map, List.append_assoc, List.getElem?_append_right (by rw [l]; exact Nat.le_refl _), l, Nat.sub_self]
    show some (isNum v 0 ((t : Int) - 1)) = some false
    rw [hv]
  · rw [← List.map_take, List.append_assoc, List.take_append_of_le_length (by rw [l]; exact Nat.le_refl _), List.take_take, Nat.min_self]
    refine List.all_eq_true.mpr fun b hb => ?_
    obtain ⟨y, hy, rfl⟩ := List.mem_map.mp hb
    obtain ⟨z, hz, rfl⟩ := List.mem_map.mp (List.mem_of_mem_take hy)
    have := ac z hz
    show (decide ((0 : Int) ≤ (z : Int)) && decide ((z : Int) ≤ (t : Int) - 1)) = true
    rw [decide_eq_true (show (0 : Int) ≤ (z : Int) by omega), decide_eq_true (show (z : Int) ≤ (t : Int) - 1 by omega)] <;> rfl
section
variable {P : Program} {w : World} {K : PySem.W.Frag} {mg : Str → Option Value} {base : Heap} {cs : Cs} {tb : Tb} {f c Pa a : Addr} {ns : List Int} {A : Around} {outer : List Env} {s : Shared} {H0 : Hp} {E0 : XK}
theorem st18 (L : Lw P w K mg base cs tb Pa) (TB : LamX.TabB base mg c Pa) (hr : LRoom A s f c) : Does (LX P w K mg base f c A outer s H0 E0) (lawSt 18) (AtA K tb Pa a ns fun _ n k _ _ L σ H => IntAt 13 σ (lenT L) ∧ IntAt 15 σ (nck n k) ∧ CoinsAt n k (lenT L) σ H) (AtA K tb Pa a ns fun _ _ _ _ _ _ _ _ => True) := by
  have un : (A.deeper (envOfC "law" (defScope s_law) s.heap.objs.size f (.ref c))).units + 64 < cLine := by have := hr.un; omega
  refine ⟨_, ps_if (pt_cmpR op_gt (pv 13) pe_int (nomark _)) (pss_cons (ps_set (i := 17) sc_law.nd rfl (Or.inl rfl) (pe_call L.tk.G (hr.mono (by decide)) (by rfl) L.tk.m L.tk.k L.tk.b .nil pass0 (pa_cons (pv 1) (pa_cons (pv 13) pa_nil))))
    (pss_cons (ps_set (i := 9) sc_law.nd rfl (Or.inr rfl) (pe_op op_catA (pe_op op_catA (pe_slice sl_tupA (pv 16) po_none (po_some (pv 17))) (pe_tup (pa_cons (pe_call L.pk.G (hr.mono (by decide)) (by rfl) L.pk.m L.pk.k L.pk.b .nil pass0 (pa_cons (pv 1) (pa_cons (pe_lst (pa_cons (pv 15) (pa_cons (pe_op op_sub pe_int pe_int) (pa_cons pe_bl (pa_cons pe_non pa_nil))))) pa_nil))) pa_nil))) (pe_slice sl_tupA (pv 16) (po_some (pe_op op_add (pv 17) pe_int)) po_none)))
    (pss_one (ps_if (pt_cmpR (op_neD un) (pe_told L.W lawQ TB rfl rfl (by rfl) (k := 11) (hr.mono (by decide)) (LamX.lamS_by (by rfl)) (fun A' outer' s' H' E' f' c' hr' => pe_call L.lo.G hr' (by rfl) L.lo.m L.lo.k L.lo.b .nil (passX (E := E') rfl rfl rfl rfl) (pa_cons (pv 2) (pa_cons pe_str (pa_cons (pv 3) (pa_cons (pv 9) (pa_cons pe_int pa_nil)))))) (by rfl) (fun _ _ _ _ _ => by rfl)) (pe_tup (pa_cons pe_str (pa_cons (pv 17) pa_nil))) (nomark _)) (pss_one (ps_ret pe_bl)) pss_nil)))) pss_nil, fun D σ H pre post => ?_⟩
  obtain ⟨r, hs, lf, n, k, d, p, cc, Lf, b, hm, ht, hc⟩ := pre
  have l6 := b.ok.len
  refine ⟨iV (lenT Lf), hm, _, _, rfl, rfl, _, rfl, ite2 (fun g => ?_) (fun _ => post _ _ ⟨r, hs, lf, n, k, d, p, cc, Lf, b, True.intro⟩)⟩
  have m1 : 1 ≤ lenT Lf := by have := of_decide_eq_true g; omega
  refine ⟨.ref r, b.s1, iV (lenT Lf), hm, taken_of (m := lenT Lf) b.W rfl m1 (by omega) fun i H1 hi kq1 W1 => ?_⟩
  have b1 := (b.kq kq1 W1).set (i := 17) (x := some (iV i)) (by decide)
  have hc1 := (hc.kt (kq1.kt b.W)).set (i := 17) (x := some (iV i)) (by decide)
  have h17 : IntAt 17 (σ.set 17 (some (iV i))) i := gn b.len (by decide)
  have ht1 := IntAt.set (j := 17) (x := some (iV i)) ht (by decide)
  obtain ⟨tc, cl, s16, gc, lc, ac⟩ := id hc1
  refine ⟨.ref tc, s16, iV i, h17, _, rfl, slice_take (i := i) gc fun p2 H2 e2 g2 => ?_⟩
  refine ⟨.ref r, b1.s1, iV (nck n k), ht1, _, _, rfl, rfl, by show 4 ≤ sizeLine; decide, fun t3 n3 => ?_⟩
  have e3 := Ex.new (o := HO.lst [iV (nck n k), V.int (0 - 1), V.bl true, V.non]) n3
  have e23 := e2.trans e3
  have b3 := b1.ex e23
  have n3r := (b1.W.ex e2).ne n3
  refine ⟨r, a, t3, ns, _, rfl, b3.W, upd_same, n3r, by show 1 ≤ 4; decide, by show 4 ≤ 1000; decide, fun v hv H4 kq4 W4 => ?_⟩
  have b4 := b3.kq kq4 W4
  have bad : isNum v 0 (((nck n k : Nat) : Int) - 1) = false ∧ ∀ G : Hp, ∃ s, KindV K G v s := by
    simp only [List.mem_cons, List.mem_nil_iff, or_false] at hv
    rcases hv with rfl | rfl | rfl | rfl
    · refine ⟨?_, fun G => ⟨_, .int _⟩⟩
      show (decide ((0 : Int) ≤ ((nck n k : Nat) : Int)) && decide (((nck n k : Nat) : Int) ≤ ((nck n k : Nat) : Int) - 1)) = false
      rw [decide_eq_false (show ¬ ((nck n k : Nat) : Int) ≤ ((nck n k : Nat) : Int) - 1 by omega), Bool.and_false]
    · refine ⟨?_, fun G => ⟨_, .int _⟩⟩
      show (decide ((0 : Int) ≤ (0 : Int) - 1) && decide ((0 : Int) - 1 ≤ ((nck n k : Nat) : Int) - 1)) = false
      rw [decide_eq_false (show ¬ (0 : Int) ≤ (0 : Int) - 1 by omega), Bool.false_and]
    · exact ⟨rfl, fun G => ⟨_, .bl _⟩⟩
    · exact ⟨rfl, fun G => ⟨_, .non⟩⟩
  refine ⟨by show 1 ≤ sizeLine; decide, fun t5 n5 => ?_⟩
  have e5 := Ex.new (o := HO.tup [v]) n5
  have k25 : Kq r H2 _ := (Kq.ex e3).trans (kq4.trans (Kq.ex e5))
  have g25 := k25.kt (b1.W.ex e2) _ _ g2
  refine cat_q g25 upd_same (by rw [List.length_take, List.length_map, lc]; show min i (lenT Lf) + 1 ≤ 1000; omega) fun p6 H6 e6 g6 => ?_
  have k16 : Kq r H1 H6 := (Kq.ex e2).trans (k25.trans (Kq.ex e6))
  refine ⟨.ref tc, s16, iV i, h17, _, _, rfl, rfl, _, rfl, ?_⟩
  dsimp only [tNoPart]
  rw [show ((i : Int) + 1) = ((i + 1 : Nat) : Int) by push_cast; rfl]
  refine slice_drop (i := i + 1) (k16.kt b1.W _ _ gc) fun p7 H7 e7 g7 => ?_
  refine cat_q (e7 _ _ g6) g7 (by rw [List.length_append, List.length_take, List.length_drop, List.length_map, lc]; show min i (lenT Lf) + 1 + (lenT Lf - (i + 1)) ≤ 1000; omega) fun p8 H8 e8 g8 => ?_
  have e58 := e5.trans (e6.trans (e7.trans e8))
  have b8 := (b4.ex e58).set (i := 9) (x := some (.ref p8)) (by decide)
  have s9 := gn (σ := σ.set 17 (some (iV i))) (v := V.ref p8) b1.len (show 9 < 20 by decide)
  have s17 := gs (i := 9) (x := some (V.ref p8)) h17 (by decide)
  obtain ⟨w1, w2⟩ := wrong_at (by rw [lc]; exact hi) ac bad.1
  have cv : ∀ G : Hp, G p8 = some (.tup ((cl.map iV).take i ++ [v] ++ (cl.map iV).drop (i + 1))) → CoinsV K G (nck n k) (lenT Lf) (.ref p8) (some _) := fun G g => .tup g (by rw [List.length_append, List.length_append, List.length_take, List.length_drop, List.length_map, lc]; show min i (lenT Lf) + 1 + (lenT Lf - (i + 1)) = lenT Lf; omega) (coin_pair fun y hy => by
    rcases List.mem_append.mp hy with h | h
    · rcases List.mem_append.mp h with h | h
      · obtain ⟨z, _, rfl⟩ := List.mem_map.mp (List.mem_of_mem_take h)
        exact ⟨_, .int _⟩
      · rw [List.mem_singleton.mp h]
        exact bad.2 G
    · obtain ⟨z, _, rfl⟩ := List.mem_map.mp (List.mem_of_mem_drop h)
      exact ⟨_, .int _⟩)
  refine told_go (K := K) (er := .coins (some i)) (q := lawQ) b8.T.l (fun G4 Qn E k4 T4 hE => ?_) fun G5 p9 k5 T5 g5 => ?_
  · refine ⟨.ref hs, b8.s2, .ref lf, b8.s3, .ref p8, s9, ?_⟩
    have b4 := b8.kl k4 T4
    exact told_one (Qn := Qn) L.na (told_looks (y := .int 0) b4.hh b4.tv b4.ok b4.T.m b4.T.s fun H' k' => t_coins (b4.hh.ks k') (sess_of (b4.tv.mv fun _ _ g => k'.t _ _ g) b4.ok (k'.g _ b4.T.n)) (cv H' (k'.t _ _ (k4.t _ _ g8))) w2 w1 (by omega)) k4 T4 hE
  · refine ⟨iV i, s17, by show 2 ≤ sizeLine; decide, fun p10 n10 => ?_⟩
    have E6 := Ex.new (o := HO.tup [V.str "coins", iV i]) n10
    refine told_ne (er := .coins (some i)) (E6 _ _ g5) (upd_same.trans rfl) ⟨_, rfl, iteF ?_⟩
    exact post _ _ ⟨r, hs, lf, n, k, d, p, cc, Lf, (b8.kl k5 T5).ex E6, True.intro⟩
end
end K01

set_option maxHeartbeats 4000000
namespace K01
open PySem PySem.Spec PyProof.Rows L2 Hd Evl
/-! ### lives compared -/
theorem okLife_up {d p most u : Nat} {L : LifeT} (h : OkLife d p most L) : OkLife d p most (upT u L) := by
  refine ⟨?_, ?_, fun s hs => ?_, ?_⟩
  · unfold upT
    rw [List.length_map]
    exact h.one
  · unfold upT
    rw [List.length_map]
    exact h.three
  · obtain ⟨z, hz, rfl⟩ := List.mem_map.mp hs
    obtain ⟨h1, h2⟩ := h.sess z hz
    refine ⟨Nat.lt_of_le_of_lt (Nat.min_le_left _ _) h1, fun m hm => ?_⟩
    obtain ⟨y, hy, rfl⟩ := List.mem_map.mp hm
    obtain ⟨b1, b2⟩ := h2 y hy
    refine ⟨Nat.le_trans (List.length_filter_le _ _) b1, fun x hx => ?_⟩
    obtain ⟨x1, x2⟩ := List.mem_filter.mp hx
    obtain ⟨c1, c2, c3⟩ := b2 x x1
    exact ⟨Nat.le_min.mpr ⟨c1, of_decide_eq_true x2⟩, c2, c3⟩
  · have e : lenT (upT u L) = lenT L := by
      unfold lenT upT
      rw [List.map_map]
      congr 1
      refine List.map_congr_left fun s _ => ?_
      show (s.2.map (upM u)).length = s.2.length
      rw [List.length_map]
    rw [e]
    exact h.len
theorem okLife_mono {d p a b : Nat} {L : LifeT} (h : OkLife d p a L) (l : a ≤ b) : OkLife d p b L := { h with len := Nat.le_trans h.len l }
theorem bnd_life {d p : Nat} {L : LifeT} (h : OkLife d p 6 L) : (∀ s ∈ L, s.2.length ≤ 1000 ∧ ∀ m ∈ s.2, m.length ≤ 1000) ∧ L.length ≤ 1000 := by
  refine ⟨fun s hs => ⟨?_, fun m hm => ?_⟩, ?_⟩
  · have := len_le hs
    have := h.len
    omega
  · have := ((h.sess s hs).2 m hm).1
    omega
  · have := h.three
    omega
theorem lay_map {α : Type} {f : α → PyData} (h : ∀ x, PyData.canLay0 (f x) = true) (L : List α) : PyData.canLay0 (.tuple (L.map f)) = true := by
  have := lay_of (ds := L.map f) fun x hx => by
    obtain ⟨y, _, rfl⟩ := List.mem_map.mp hx
    exact h y
  simpa [PyData.canLay0] using this
theorem depth_map {α : Type} {f : α → PyData} {n : Nat} (h : ∀ x, PyData.depth (f x) ≤ n) (L : List α) : PyData.depth (.tuple (L.map f)) ≤ n + 1 := by
  have := depth_of (ds := L.map f) (n := n) fun x hx => by
    obtain ⟨y, _, rfl⟩ := List.mem_map.mp hx
    exact h y
  simp only [PyData.depth]
  omega
theorem lay_life (L : LifeT) : PyData.canLay0 (lifeP L) = true :=
  lay_map (fun s => by
    have h := lay_map (f := momP) (fun m => lay_map (f := deedP) (fun x => by simp [deedP, intP, PyData.canLay0, PyData.canLayAll0]) m) s.2
    show PyData.canLay0 (.tuple [intP s.1, storyP s.2]) = true
    simp only [PyData.canLay0, PyData.canLayAll0]
    have e : PyData.canLay0 (storyP s.2) = true := h
    rw [e]
    simp [intP, PyData.canLay0]) L
theorem depth_life (L : LifeT) : PyData.depth (lifeP L) ≤ 6 :=
  depth_map (n := 5) (fun s => by
    have h : PyData.depth (storyP s.2) ≤ 4 := depth_map (f := momP) (n := 3) (fun m => Nat.le_trans (depth_map (f := deedP) (n := 2) (fun x => by simp [deedP, intP, PyData.depth, PyData.depthAll]) m) (by decide)) s.2
    show PyData.depth (.tuple [intP s.1, storyP s.2]) ≤ 5
    simp only [PyData.depth, PyData.depthAll, intP]
    omega) L
theorem shaped_life (L : LifeT) : SeqAt.shaped (lifeP L) = true := by
  unfold SeqAt.shaped
  have := depth_life L
  rw [lay_life, decide_eq_true (by omega)] <;> rfl
theorem wideAll_of {n : Nat} : ∀ {ds : List PyData}, (∀ x ∈ ds, wideD x ≤ n) → wideAll ds ≤ n
  | [], _ => by simp [wideAll]
  | d :: ds, h => by
    have a := h d List.mem_cons_self
    have b := wideAll_of fun x hx => h x (List.mem_cons_of_mem _ hx)
    simp only [wideAll]
    omega
theorem wide_map {α : Type} {f : α → PyData} {n : Nat} {L : List α} (l : L.length ≤ n) (h : ∀ x ∈ L, wideD (f x) ≤ n) : wideD (.tuple (L.map f)) ≤ n := by
  have := wideAll_of (ds := L.map f) (n := n) fun x hx => by
    obtain ⟨y, hy, rfl⟩ := List.mem_map.mp hx
    exact h y hy
  simp only [wideD, List.length_map]
  omega
theorem wide_life {d p : Nat} {L : LifeT} (h : OkLife d p 6 L) : wideD (lifeP L) ≤ 100000 := by
  obtain ⟨b1, b2⟩ := bnd_life h
  refine wide_map (by omega) fun s hs => ?_
  have e : wideD (storyP s.2) ≤ 100000 := wide_map (by have := (b1 s hs).1; omega) fun m hm => wide_map (f := deedP) (by have := (b1 s hs).2 m hm; omega) fun x _ => by simp [deedP, intP, wideD, wideAll]
  show wideD (.tuple [intP s.1, storyP s.2]) ≤ 100000
  simp only [wideD, wideAll, intP, List.length_cons, List.length_nil]
  omega
theorem dp_life {K : PySem.W.Frag} {H : Hp} {v : V} {d : PyData} (h : Tv H v d) : Dp K H v d := Hd.Dv.dp (r := 0) K d v (Tv.dv 0 d v h)
theorem alike_life {K : PySem.W.Frag} {H : Hp} {x y : V} {d p : Nat} {L : LifeT} {Q : VK} {E : XK} (h1 : Tv H x (lifeP L)) (h2 : Tv H y (lifeP L)) (ok : OkLife d p 6 L) (q : ∀ H', Ex H H' → Q (.bl true) H') : spAlike K 8 [x, y] H Q E :=
  (⟨⟨_, _, lifeP L, rfl, dp_life h1, dp_life h2, Nat.le_trans (depth_life L) (by decide), wide_life ok, q⟩⟩ : AlikeP K 7 _ H Q E)
section
variable {P : Program} {w : World} {K : PySem.W.Frag} {mg : Str → Option Value} {base : Heap} {cs : Cs} {tb : Tb} {f c Pa a : Addr} {ns : List Int} {A : Around} {outer : List Env} {s : Shared} {H0 : Hp} {E0 : XK}
/-- the drawer, the other life -/
def OtherAt (d p : Nat) (σ : L2.St) (H : Hp) : Prop := ∃ (u t : Nat) (M : LifeT), IntAt 18 σ u ∧ u < d ∧ σ[19]? = some (some (.ref t)) ∧ Tv H (.ref t) (lifeP M) ∧ OkLife d p 6 M
theorem OtherAt.kt {d p : Nat} {σ : L2.St} {H H1 : Hp} (h : OtherAt d p σ H) (k : Kt H H1) : OtherAt d p σ H1 := let ⟨u, t, M, h1, h2, h3, h4, h5⟩ := h; ⟨u, t, M, h1, h2, h3, h4.mv k, h5⟩
theorem st19 (L : Lw P w K mg base cs tb Pa) (hr : LRoom A s f c) : Does (LX P w K mg base f c A outer s H0 E0) (lawSt 19) (AtA K tb Pa a ns fun _ _ _ _ _ _ _ _ => True) (AtA K tb Pa a ns fun _ _ _ d p _ σ H => OtherAt d p σ H) := by
  refine ⟨_, ps_par (i := 18) (j := 19) (by rfl) sc_law.nd rfl rfl (by decide) rfl rfl (pa_cons (pe_call L.tk.G (hr.mono (by decide)) (by rfl) L.tk.m L.tk.k L.tk.b .nil pass0 (pa_cons (pv 1) (pa_cons (pe_ix ix_tup (pv 2) pe_int (fun _ _ => rfl)) pa_nil))) (pa_cons (pe_call L.lf.G (hr.mono (by decide)) (by rfl) L.lf.m L.lf.k L.lf.b .nil pass0 (pa_cons (pv 1) (pa_cons (pv 2) (pa_cons pe_int pa_nil)))) pa_nil)) (by rfl), fun D σ H pre post => ?_⟩
  obtain ⟨r, hs, lf, n, k, d, p, cc, Lf, b, _⟩ := pre
  have d1 := b.hh.d1
  have d4 := b.hh.d4
  refine ⟨.ref r, b.s1, .ref hs, b.s2, hs, _, _, .int d, rfl, rfl, SqT.of b.hh.at_, atI_nat (j := 2) rfl, taken_of (m := d) b.W rfl d1 (by omega) fun u H1 hu kq1 W1 => ?_⟩
  have b1 := b.kq kq1 W1
  refine ⟨.ref r, b.s1, .ref hs, b.s2, r, a, hs, ns, n, k, d, p, cc, 3, rfl, W1, b1.hh, by decide, fun t M H2 tv ok kq2 W2 => ⟨_, _, rfl, post _ _ ⟨r, hs, lf, n, k, d, p, cc, Lf, ((b1.kq kq2 W2).set (by decide)).set (by decide), u, t, M, ?_, hu, ?_, tv, okLife_mono ok (by decide)⟩⟩⟩
  · exact gs (gn b.len (by decide)) (by decide)
  · exact gn (by rw [List.length_set]; exact b.len) (by decide)
theorem st20 (L : Lw P w K mg base cs tb Pa) (hr : LRoom A s f c) : Does (LX P w K mg base f c A outer s H0 E0) (lawSt 20) (AtA K tb Pa a ns fun _ _ _ d p _ σ H => OtherAt d p σ H) (AtA K tb Pa a ns fun _ _ _ d p _ σ H => OtherAt d p σ H) := by
  refine ⟨_, ps_set (i := 19) sc_law.nd rfl (Or.inl rfl) (pe_call L.pk.G (hr.mono (by decide)) (by rfl) L.pk.m L.pk.k L.pk.b .nil pass0 (pa_cons (pv 1) (pa_cons (pe_lst (pa_cons (pv 19) (pa_cons (pv 3) (pa_cons (pe_call L.ul.G (hr.mono (by decide)) (by rfl) L.ul.m L.ul.k L.ul.b .nil pass0 (pa_cons (pv 3) (pa_cons (pv 18) pa_nil))) (pa_cons (pe_call L.ul.G (hr.mono (by decide)) (by rfl) L.ul.m L.ul.k L.ul.b .nil pass0 (pa_cons (pv 3) (pa_cons pe_int pa_nil))) pa_nil))))) pa_nil))), fun D σ H pre post => ?_⟩
  obtain ⟨r, hs, lf, n, k, d, p, cc, Lf, b, u, t, M, hu, ud, s19, tv, ok⟩ := pre
  obtain ⟨q1, q2⟩ := bnd_life b.ok
  refine ⟨.ref r, b.s1, .ref t, s19, .ref lf, b.s3, .ref lf, b.s3, iV u, hu, lf, Lf, u, rfl, b.tv, q1, q2, fun t1 H1 tv1 e1 => ?_⟩
  have b1 := b.ex e1
  refine ⟨.ref lf, b.s3, lf, Lf, 0, rfl, b1.tv, q1, q2, fun t2 H2 tv2 e2 => ?_⟩
  refine ⟨by show 4 ≤ sizeLine; decide, fun t3 n3 => ?_⟩
  have e3 := Ex.new (o := HO.lst [V.ref t, V.ref lf, V.ref t1, V.ref t2]) n3
  have b2 := b1.ex e2
  have b3 := b2.ex e3
  have n3r := b2.W.ne n3
  refine ⟨r, a, t3, ns, _, rfl, b3.W, upd_same, n3r, by show 1 ≤ 4; decide, by show 4 ≤ 1000; decide, fun v hv H4 kq4 W4 => ?_⟩
  have b4 := b3.kq kq4 W4
  have k34 := kq4.kt b3.W
  have good : ∃ (t' : Nat) (M' : LifeT), v = .ref t' ∧ Tv H4 (.ref t') (lifeP M') ∧ OkLife d p 6 M' := by
    simp only [List.mem_cons, List.mem_nil_iff, or_false] at hv
    rcases hv with rfl | rfl | rfl | rfl
    · exact ⟨t, M, rfl, (tv.mv (Kt.ex (e1.trans (e2.trans e3)))).mv k34, ok⟩
    · exact ⟨lf, Lf, rfl, b4.tv, b.ok⟩
    · exact ⟨t1, upT u Lf, rfl, (tv1.mv (Kt.ex (e2.trans e3))).mv k34, okLife_up b.ok⟩
    · exact ⟨t2, upT 0 Lf, rfl, (tv2.mv (Kt.ex e3)).mv k34, okLife_up b.ok⟩
  obtain ⟨t', M', rfl, tv', ok'⟩ := good
  exact post _ _ ⟨r, hs, lf, n, k, d, p, cc, Lf, b4.set (by decide), u, t', M', IntAt.set hu (by decide), ud, gn b.len (by decide), tv', ok'⟩
/-- upper at a good life -/
theorem num_in {u d : Nat} (h : u < d) : isNum (iV u) 0 ((d : Int) - 1) = true := by
  show (decide ((0 : Int) ≤ (u : Int)) && decide ((u : Int) ≤ (d : Int) - 1)) = true
  rw [decide_eq_true (show (0 : Int) ≤ (u : Int) by omega), decide_eq_true (show (u : Int) ≤ (d : Int) - 1 by omega)] <;> rfl
theorem st21 (L : Lw P w K mg base cs tb Pa) (hr : LRoom A s f c) : Does (LX P w K mg base f c A outer s H0 E0) (lawSt 21) (AtA K tb Pa a ns fun _ _ _ d p _ σ H => OtherAt d p σ H) (AtA K tb Pa a ns fun _ _ _ d p _ σ H => OtherAt d p σ H) := by
  refine ⟨_, ps_if (pt_not (pt_val (pe_call (L.al 8).G (hr.mono (by decide)) (by rfl) (L.al 8).m (L.al 8).k (L.al 8).b .nil pass0 (pa_cons (pe_call L.up.G (hr.mono (by decide)) (by rfl) L.up.m L.up.k L.up.b .nil (passX (E := E0) rfl rfl rfl rfl) (pa_cons (pv 2) (pa_cons (pv 3) (pa_cons (pv 18) pa_nil)))) (pa_cons (pe_call L.ul.G (hr.mono (by decide)) (by rfl) L.ul.m L.ul.k L.ul.b .nil pass0 (pa_cons (pv 3) (pa_cons (pv 18) pa_nil))) pa_nil))))) (pss_one (ps_ret pe_bl)) pss_nil, fun D σ H pre post => ?_⟩
  obtain ⟨r, hs, lf, n, k, d, p, cc, Lf, b, u, t, M, hu, ud, s19, tv, ok⟩ := pre
  obtain ⟨q1, q2⟩ := bnd_life b.ok
  refine ⟨.ref hs, b.s2, .ref lf, b.s3, iV u, hu, _, _, _, rfl, p_house b.hh _ _ fun H1 k1 => ?_⟩
  have b1 := b.kl k1 (tabS_kl L.na b.T.l k1)
  refine pass_life b1.hh b1.tv b1.ok b1.T.m b1.T.s _ _ fun H2 k2 => ?_
  have b2 := b1.kl k2 (tabS_kl L.na b1.T.l k2)
  refine p_chk b2.hh (.int _) (num_in ud) _ _ fun H3 k3 => ?_
  have b3 := b2.kl k3 (tabS_kl L.na b2.T.l k3)
  refine ⟨lf, Lf, u, rfl, b3.tv, q1, q2, b3.T.u, b3.T.a, fun t4 H4 tv4 k4 => ?_⟩
  have b4 := b3.kl k4 (tabS_kl L.na b3.T.l k4)
  refine ⟨.ref lf, b.s3, iV u, hu, lf, Lf, u, rfl, b4.tv, q1, q2, fun t5 H5 tv5 e5 => alike_life (tv4.mv (Kt.ex e5)) tv5 (okLife_up b.ok) fun H6 e6 => ⟨true, rfl, iteF (post _ _ ⟨r, hs, lf, n, k, d, p, cc, Lf, b4.ex (e5.trans e6), u, t, M, hu, ud, s19, ?_, ok⟩)⟩⟩
  exact ((((tv.mv (ks_kt k1)).mv (ks_kt k2)).mv (ks_kt k3)).mv (ks_kt k4)).mv (Kt.ex (e5.trans e6))
theorem st22 (L : Lw P w K mg base cs tb Pa) (hr : LRoom A s f c) : Does (LX P w K mg base f c A outer s H0 E0) (lawSt 22) (AtA K tb Pa a ns fun _ _ _ d p _ σ H => OtherAt d p σ H) (AtA K tb Pa a ns fun _ _ _ _ _ _ _ _ => True) := by
  have un : (A.deeper (envOfC "law" (defScope s_law) s.heap.objs.size f (.ref c))).units + 64 < cLine := by have := hr.un; omega
  refine ⟨_, ps_if (pt_not (pt_val (pe_call (L.al 1).G (hr.mono (by decide)) (by rfl) (L.al 1).m (L.al 1).k (L.al 1).b .nil pass0 (pa_cons (pe_call L.aa.G (hr.mono (by decide)) (by rfl) L.aa.m L.aa.k L.aa.b .nil (passX (E := E0) rfl rfl rfl rfl) (pa_cons (pv 2) (pa_cons (pv 3) (pa_cons (pv 19) (pa_cons (pv 18) pa_nil))))) (pa_cons (pe_cmpR (op_eqD un) (pe_call L.ul.G (hr.mono (by decide)) (by rfl) L.ul.m L.ul.k L.ul.b .nil pass0 (pa_cons (pv 3) (pa_cons (pv 18) pa_nil))) (pe_call L.ul.G (hr.mono (by decide)) (by rfl) L.ul.m L.ul.k L.ul.b .nil pass0 (pa_cons (pv 19) (pa_cons (pv 18) pa_nil))) (nomark _)) pa_nil))))) (pss_one (ps_ret pe_bl)) pss_nil, fun D σ H pre post => ?_⟩
  obtain ⟨r, hs, lf, n, k, d, p, cc, Lf, b, u, t, M, hu, ud, s19, tv, ok⟩ := pre
  obtain ⟨q1, q2⟩ := bnd_life b.ok
  obtain ⟨m1, m2⟩ := bnd_life ok
  refine ⟨.ref hs, b.s2, .ref lf, b.s3, .ref t, s19, iV u, hu, _, _, _, _, rfl, p_house b.hh _ _ fun H1 k1 => ?_⟩
  have b1 := b.kl k1 (tabS_kl L.na b.T.l k1)
  have tv1 := tv.mv (ks_kt k1)
  refine pass_life b1.hh b1.tv b1.ok b1.T.m b1.T.s _ _ fun H2 k2 => ?_
  have b2 := b1.kl k2 (tabS_kl L.na b1.T.l k2)
  have tv2 := tv1.mv (ks_kt k2)
  refine pass_life b2.hh tv2 ok b2.T.m b2.T.s _ _ fun H3 k3 => ?_
  have b3 := b2.kl k3 (tabS_kl L.na b2.T.l k3)
  have tv3 := tv2.mv (ks_kt k3)
  refine p_chk b3.hh (.int _) (num_in ud) _ _ fun H4 k4 => ?_
  have b4 := b3.kl k4 (tabS_kl L.na b3.T.l k4)
  have tv4 := tv3.mv (ks_kt k4)
  refine ⟨lf, Lf, u, rfl, b4.tv, q1, q2, b4.T.u, b4.T.a, fun t5 H5 tv5 k5 => ?_⟩
  have b5 := b4.kl k5 (tabS_kl L.na b4.T.l k5)
  refine ⟨t, M, u, rfl, tv4.mv (ks_kt k5), m1, m2, b5.T.u, b5.T.a, fun t6 H6 tv6 k6 => ?_⟩
  have b6 := b5.kl k6 (tabS_kl L.na b5.T.l k6)
  refine ⟨_, _, dp_life (tv5.mv (ks_kt k6)), dp_life tv6, shaped_life _, shaped_life _, ?_⟩
  refine ⟨.ref lf, b.s3, iV u, hu, lf, Lf, u, rfl, b6.tv, q1, q2, fun t7 H7 tv7 e7 => ?_⟩
  refine ⟨.ref t, s19, iV u, hu, t, M, u, rfl, ((tv4.mv (ks_kt k5)).mv (ks_kt k6)).mv (Kt.ex e7), m1, m2, fun t8 H8 tv8 e8 => ?_⟩
  exact ⟨_, _, dp_life (tv7.mv (Kt.ex e8)), dp_life tv8, shaped_life _, shaped_life _, alike_bl rfl fun H9 e9 => ⟨true, rfl, iteF (post _ _ ⟨r, hs, lf, n, k, d, p, cc, Lf, b6.ex (e7.trans (e8.trans e9)), True.intro⟩)⟩⟩
end
end K01

set_option maxHeartbeats 4000000
namespace K01
open PySem PySem.Spec PyProof.Rows L2 Hd Evl
theorem wipe9 {σ : L2.St} {j : Nat} (h : j ≠ 9) : (wipe σ [9])[j]? = σ[j]? := by
  show (σ.set 9 none)[j]? = _
  rw [List.getElem?_set_ne (fun e => h e.symm)]
theorem wipe92 {σ : L2.St} {x : Option V} : wipe ((wipe σ [9]).set 9 x) [9] = wipe σ [9] := by
  show ((σ.set 9 none).set 9 x).set 9 none = σ.set 9 none
  rw [List.set_set, List.set_set]
section
variable {K : PySem.W.Frag} {H : Hp} {cs : Cs} {tb : Tb} {hs lf : Addr} {n k d p c : Nat} {v : V} {L : LifeT}
theorem told_drawer (hh : HouseAt H hs n k d p c) (tv : Tv H (.ref lf) (lifeP L)) (ok : OkLife d p 6 L) (tm : GxR.TabG H tb.m) (ts : GxR.TabG H tb.s) (kv : ∀ G : Hp, ∃ s, KindV K G v s) (bad : isNum v 0 ((d : Int) - 1) = false) : Told K cs (sp_upper K cs tb) [.ref hs, .ref lf, v] H .drawer := fun Q E h =>
  ⟨_, _, _, rfl, p_house hh _ _ fun H1 k1 => pass_life (hh.ks k1) (tv.mv fun _ _ g => k1.t _ _ g) ok (k1.g _ tm) (k1.g _ ts) _ _ fun H2 k2 =>
    t_chk (er := .drawer) ((hh.ks k1).ks k2) (kv H2).choose_spec bad (fun _ _ => rfl) _ E fun cls dd H' k' i => h cls dd H' ((k1.trans k2).trans k') i⟩
end
section
variable {P : Program} {w : World} {K : PySem.W.Frag} {mg : Str → Option Value} {base : Heap} {cs : Cs} {tb : Tb} {f c Pa a : Addr} {ns : List Int} {A : Around} {outer : List Env} {s : Shared} {H0 : Hp} {E0 : XK}
theorem st23 (L : Lw P w K mg base cs tb Pa) (TB : LamX.TabB base mg c Pa) (hr : LRoom A s f c) : ∃ t, PSs (LX P w K mg base f c A outer s H0 E0) [lawSt 23] t ∧ ∀ (D : Ends) σ H, AtA K tb Pa a ns (fun _ _ _ _ _ _ _ _ => True) σ H → (∀ H', D.rt (.bl true) H') → t D σ H := by
  have un : (A.deeper (envOfC "law" (defScope s_law) s.heap.objs.size f (.ref c))).units + 64 < cLine := by have := hr.un; omega
  refine ⟨_, pss_one (ps_ret (pe_cmpR (op_eqD un) (pe_lc (own := [("value", 9)]) (g := gName 9) (by rfl) sc_law.nd (pi_list (pe_lst (pa_cons (pe_ix ix_tup (pv 2) pe_int (fun _ _ => rfl)) (pa_cons (pe_op op_sub pe_int pe_int) (pa_cons pe_non (pa_cons pe_bl pa_nil)))))) (blkOk_by (own := [("value", 9)]) (N := n_law) (sc := defScope s_law) (by decide +kernel)) (fun _ _ _ _ _ => pg_name (i := 9) sc_law.nd rfl (Or.inr rfl))
    (fun _ _ _ _ _ => pts_one (pt_cmpR (op_neD un : OpR _ _ (rNeD K)) (pe_told L.W lawQ TB rfl rfl (by rfl) (k := 11) (hr.mono (by decide)) (LamX.lamS_by (by rfl)) (fun A' outer' s' H' E' f' c' hr' => pe_call L.up.G hr' (by rfl) L.up.m L.up.k L.up.b .nil (passX (E := E') rfl rfl rfl rfl) (pa_cons (pv 2) (pa_cons (pv 3) (pa_cons (pv 9) pa_nil)))) (by rfl) (fun _ _ _ _ _ => by rfl)) (pe_tup (pa_cons pe_str (pa_cons pe_int pa_nil))) (nomark _))) (fun _ _ _ _ _ => (pv 9))) (pe_lst pa_nil) (nomark _))), fun D σ H pre post => ?_⟩
  obtain ⟨r, hs, lf, n, k, d, p, cc, Lf, b, _⟩ := pre
  refine ⟨.ref hs, b.s2, hs, _, _, .int d, rfl, rfl, SqT.of b.hh.at_, atI_nat (j := 2) rfl, _, _, rfl, rfl, by show 4 ≤ sizeLine; decide, fun l nl => ⟨l, rfl, ⟨_, SqL.of upd_same⟩, fun F nF => ?_⟩⟩
  have e1 := Ex.new (o := HO.lst [V.int d, V.int (0 - 1), V.non, V.bl true]) nl
  have e2 := Ex.new (o := HO.lst []) nF
  have bG := (b.ex e1).ex e2
  have all : ∀ x ∈ [V.int d, V.int (0 - 1), V.non, V.bl true], (∀ G : Hp, ∃ s, KindV K G x s) ∧ isNum x 0 ((d : Int) - 1) = false := fun x hx => by
    simp only [List.mem_cons, List.mem_nil_iff, or_false] at hx
    rcases hx with rfl | rfl | rfl | rfl
    · refine ⟨fun G => ⟨_, .int _⟩, ?_⟩
      show (decide ((0 : Int) ≤ (d : Int)) && decide ((d : Int) ≤ (d : Int) - 1)) = false
      rw [decide_eq_false (show ¬ (d : Int) ≤ (d : Int) - 1 by omega), Bool.and_false]
    · refine ⟨fun G => ⟨_, .int _⟩, ?_⟩
      show (decide ((0 : Int) ≤ (0 : Int) - 1) && decide ((0 : Int) - 1 ≤ (d : Int) - 1)) = false
      rw [decide_eq_false (show ¬ (0 : Int) ≤ (0 : Int) - 1 by omega), Bool.false_and]
    · exact ⟨fun G => ⟨_, .non⟩, rfl⟩
    · exact ⟨fun G => ⟨_, .bl _⟩, rfl⟩
  have gl := e2 _ _ (upd_same (H := H) (a := l) (o := HO.lst [V.int d, V.int (0 - 1), V.non, V.bl true]))
  refine lc_list (xs := [V.int d, V.int (0 - 1), V.non, V.bl true]) (fun i G => Bs K tb Pa a ns r hs lf n k d p cc Lf σ G ∧ G l = some (.lst [V.int d, V.int (0 - 1), V.non, V.bl true]) ∧ G F = some (.lst [])) ⟨bG, gl, upd_same⟩ (fun i G _ w => SqL.of w.2.1) (fun i x G hx w => ?_) (fun G w => ?_)
  · obtain ⟨b, gl, gF⟩ := w
    obtain ⟨kx, bx⟩ := all x (List.mem_of_getElem? hx)
    have l9 : (wipe σ [9]).length = 20 := by show (σ.set 9 none).length = 20; rw [List.length_set]; exact b.len
    have s2 : ((wipe σ [9]).set 9 (some x))[2]? = some (some (.ref hs)) := gs (by rw [wipe9 (by decide)]; exact b.s2) (by decide)
    have s3 : ((wipe σ [9]).set 9 (some x))[3]? = some (some (.ref lf)) := gs (by rw [wipe9 (by decide)]; exact b.s3) (by decide)
    have s9 : ((wipe σ [9]).set 9 (some x))[9]? = some (some x) := gn l9 (by decide)
    refine ⟨wipe92, told_go (K := K) (er := .drawer) (q := lawQ) b.T.l (fun G4 Qn E k4 T4 hE => ?_) fun G5 p5 k5 T5 g5 => ?_⟩
    · refine ⟨.ref hs, s2, .ref lf, s3, x, s9, ?_⟩
      have b4 := b.kl k4 T4
      exact told_one (Qn := Qn) L.na (told_drawer b4.hh b4.tv b4.ok b4.T.m b4.T.s kx bx) k4 T4 hE
    · refine ⟨by show 2 ≤ sizeLine; decide, fun p6 n6 => ?_⟩
      have E6 := Ex.new (o := HO.tup [V.str "drawer", V.int 0]) n6
      refine told_ne (er := .drawer) (E6 _ _ g5) (upd_same.trans rfl) ⟨_, rfl, iteF ?_⟩
      have k56 : Kl (S1 K Pa) G _ := k5.trans (Kl.ex E6)
      exact ⟨(b.kl k5 T5).ex E6, k56.l _ _ gl, k56.l _ _ gF⟩
  · obtain ⟨b, gl, gF⟩ := w
    refine ⟨by show 0 ≤ sizeLine; decide, fun z nz => ?_⟩
    have ez := Ex.new (o := HO.lst []) nz
    exact ⟨.list [], .list [], .lst (SqL.of (ez _ _ gF)) .nil, .lst (SqL.of upd_same) .nil, by decide +kernel, by decide +kernel, post _⟩
theorem law_body : defBody s_law = [lawSt 0, lawSt 1, lawSt 2, lawSt 3, lawSt 4, lawSt 5, lawSt 6, lawSt 7, lawSt 8, lawSt 9, lawSt 10, lawSt 11, lawSt 12, lawSt 13, lawSt 14, lawSt 15, lawSt 16, lawSt 17, lawSt 18, lawSt 19, lawSt 20, lawSt 21, lawSt 22, lawSt 23] := rfl
theorem law_all (L : Lw P w K mg base cs tb Pa) (TB : LamX.TabB base mg c Pa) (hr : LRoom A s f c) : ∃ t, PSs (LX P w K mg base f c A outer s H0 E0) (defBody s_law) t ∧ ∀ (D : Ends) σ H, At0 K tb Pa a ns σ H → (∀ H', D.rt (.bl true) H') → t D σ H := by
  rw [law_body]
  exact does_cons (F := fun D => ∀ H', D.rt (.bl true) H') st0 (does_cons (st1 L hr) (does_cons (st2 L hr) (does_cons st3 (does_cons st4 (does_cons st5 (does_cons (st6 L hr) (does_cons (st7 L hr) (does_cons (st8 L TB hr) (does_cons (st9 L hr) (does_cons st10 (does_cons (st11 L TB hr)
    (does_cons (st12 L hr) (does_cons (st13 L hr) (does_cons (st14 L hr) (does_cons (st15 L hr) (does_cons (st16 L hr) (does_cons (st17 L TB hr) (does_cons (st18 L TB hr) (does_cons (st19 L hr) (does_cons (st20 L hr) (does_cons (st21 L hr) (does_cons (st22 L hr) (st23 L TB hr)))))))))))))))))))))))
end
end K01

set_option maxHeartbeats 4000000
namespace K01
open PySem PySem.Spec PyProof.Rows L2 Hd Evl
section
variable {P : Program} {w : World} {K : PySem.W.Frag} {mg : Str → Option Value} {base : Heap} {cs : Cs} {tb : Tb} {f c Pa : Addr}
def spLaw (K : PySem.W.Frag) (ps : List Addr) (tb : Tb) (Pa : Addr) : Sp := fun vs H Q _ => ∃ (a : Addr) (ns : List Int), vs = [.ref a] ∧ SqL K H a (ns.map V.int) ∧ (∀ p ∈ [Pa, tb.m, tb.s, tb.n, tb.u, tb.a], H p = some (.tbl #[])) ∧ ∀ H', Q (.bl true) H'
theorem tab_empty {H : Hp} {P : Addr} (h : H P = some (.tbl #[])) : GxR.TabG H P := ⟨#[], h, True.intro⟩
theorem ok_law {fd : FuncData} (F : FnP K "law" s_law f fd) (L : Lw P w K mg base cs tb Pa) (hc : fd.code = .ref c) (TB : LamX.TabB base mg c Pa) : FnOk P w K mg base (L2.CX P w) 15 f fd ["script"] (spLaw K [] tb Pa) := by
  obtain ⟨oc, od, dV, kV, doc, pm, an, cdv, ct, osl, rfl, lk, hcd, _, _⟩ := F.ex
  obtain rfl : cdv = .ref c := hc
  refine fn_of (k := 14) lk hcd sc_law (fun vs H Q E h => ?_) (fun A outer s H vs Q E hr h => ?_)
  · obtain ⟨a, ns, rfl, _⟩ := h
    rfl
  · obtain ⟨a, ns, rfl, ha, hP, q⟩ := h
    obtain ⟨t, p, k⟩ := law_all (a := a) (ns := ns) (outer := outer) (H0 := H) (E0 := E) L TB hr
    refine ⟨t, p, k _ _ _ ⟨rfl, ha, ⟨tab_empty (hP _ (by simp)), tab_empty (hP _ (by simp)), tab_empty (hP _ (by simp)), tab_empty (hP _ (by simp)), tab_empty (hP _ (by simp)), LamX.TabS.nil (hP _ (by simp))⟩⟩ q⟩
end
end K01

set_option maxHeartbeats 4000000
namespace K01
open PySem PySem.Spec PyProof.Rows L2 Hd Evl
def dOf (x : Str) (st : Stmt) : He.DefD := ⟨(x, none), x, x, defArgs st, defBody st, defScope st, [], []⟩
def fnL : List He.DefD := ([dOf "is_number" s_is_number, dOf "wrong_word" s_wrong_word, dOf "check_house" s_check_house, dOf "is_drawer" s_is_drawer, dOf "check_drawer" s_check_drawer, dOf "is_page" s_is_page, dOf "is_coin" s_is_coin, dOf "is_deed" s_is_deed, dOf "is_moment" s_is_moment, dOf "check_story" s_check_story, dOf "is_story" s_is_story, dOf "is_session" s_is_session, dOf "check_life" s_check_life, dOf "is_life" s_is_life, dOf "moment_count" s_moment_count, dOf "check_coins" s_check_coins, dOf "check_way" s_check_way, dOf "check_run" s_check_run, dOf "check_waits" s_check_waits, dOf "coin_count" s_coin_count] : List He.DefD) ++ ([dOf "power" s_power, dOf "upper_moment" s_upper_moment, dOf "above" s_above, dOf "waiting_counts" s_waiting_counts, dOf "looks" s_looks, dOf "upper" s_upper, dOf "row_count" s_row_count, dOf "alike_above" s_alike_above, dOf "_law_taken" s__law_taken, dOf "_law_pick" s__law_pick, dOf "_law_alike" s__law_alike, dOf "_law_choices" s__law_choices, dOf "_law_sets" s__law_sets, dOf "_law_house" s__law_house, dOf "_law_moment" s__law_moment, dOf "_law_life" s__law_life, dOf "_law_length" s__law_length, dOf "_law_coins" s__law_coins, dOf "_law_upper" s__law_upper, dOf "_law_told" s__law_told] : List He.DefD) ++ ([dOf "_law_is_moment" s__law_is_moment, dOf "_law_wrong_story" s__law_wrong_story, dOf "_law_wrong_life" s__law_wrong_life, dOf "law" s_law, ⟨("BadHouse", some "__init__"), "__init__", "BadHouse.__init__", defArgs s_BadHouse___init__, defBody s_BadHouse___init__, defScope s_BadHouse___init__, [], []⟩, ⟨("BadStory", some "__init__"), "__init__", "BadStory.__init__", defArgs s_BadStory___init__, defBody s_BadStory___init__, defScope s_BadStory___init__, [], []⟩, ⟨("BadLife", some "__init__"), "__init__", "BadLife.__init__", defArgs s_BadLife___init__, defBody s_BadLife___init__, defScope s_BadLife___init__, [], []⟩, ⟨("BadCoins", some "__init__"), "__init__", "BadCoins.__init__", defArgs s_BadCoins___init__, defBody s_BadCoins___init__, defScope s_BadCoins___init__, [], []⟩] : List He.DefD)
def glos : List Str := (["is_number", "wrong_word", "check_house", "is_drawer", "check_drawer", "is_page", "is_coin", "is_deed", "is_moment", "check_story", "is_story", "is_session", "check_life", "is_life", "moment_count", "check_coins", "check_way", "check_run", "check_waits", "coin_count"] : List Str) ++ (["power", "upper_moment", "above", "waiting_counts", "looks", "upper", "row_count", "alike_above", "_law_taken", "_law_pick", "_law_alike", "_law_choices", "_law_sets", "_law_house", "_law_moment", "_law_life", "_law_length", "_law_coins", "_law_upper", "_law_told"] : List Str) ++ (["_law_is_moment", "_law_wrong_story", "_law_wrong_life", "law", "BadHouse", "BadStory", "BadLife", "BadCoins", "BadDrawer", "WAYS"] : List Str)
def frees : List Str := (["isinstance", "int", "bool", "str", "tuple", "list", "len", "range", "enumerate", "min", "sum", "all"] : List Str)
def nm : Nat → Str
  | 0 => "BadStory"
  | 1 => "BadLife"
  | 2 => "BadCoins"
  | _ => "BadDrawer"
def pairsL : List (Nat × Nat) := [(0, 0), (1, 0), (1, 1), (2, 0), (2, 1), (2, 2), (3, 0), (3, 1), (3, 2), (3, 3)]
def othL : List He.Fa := [.noat "BadHouse" "word", .noat "BadStory" "index", .noat "BadLife" "index", .noat "BadCoins" "index", .meth "BadHouse" "__init__", .meth "BadStory" "__init__", .meth "BadLife" "__init__", .meth "BadCoins" "__init__", .exc "BadDrawer"]
def exmL : List He.Fa := pairsL.map fun p => .exm (nm p.1) (nm p.2) (p.1 == p.2)
def faL : List He.Fa := glos.map .glo ++ (frees.map .free ++ (othL ++ exmL))
def tfL : List He.Defn := [("law", none), ("is_moment", none), ("is_session", none), ("moment_count", none), ("upper_moment", none), ("above", none)]
def skB (K : PySem.W.Frag) (P : Addr) : Bool := progTabs.all fun p => !decide (P = (He.cT K p).2)
theorem skB_ok {K : PySem.W.Frag} {P : Addr} (h : skB K P = true) : ¬ Sk K P := fun ⟨p, hp, e⟩ => by
  have := List.all_eq_true.mp h p hp
  rw [decide_eq_true e] at this
  cases this
def exL (K : PySem.W.Frag) : Bool := gIntB K "LEAST_CELLS" 2 && (gIntB K "MOST_CELLS" 12 && (gIntB K "MOST_DEEDS" 6 && (gIntB K "MOST_MOMENTS" 40 && (gIntB K "MOST_SESSIONS" 6 && (gBltB K "comb" "math.comb" && (He.tupB K "WAYS" [.str "true", .str "free", .str "idle", .str "kept", .str "need", .str "lower"] && (ownB K "BadHouse" && (ownB K "BadStory" && (ownB K "BadLife" && (ownB K "BadCoins" && (skB K (He.cT K ("law", none)).2)))))))))))
def askL : Ask := ⟨faL, fnL, tfL, exL, (["is_number", "wrong_word", "check_house", "is_drawer", "check_drawer", "is_page", "is_coin", "is_deed", "is_moment", "check_story", "is_story", "is_session", "check_life", "is_life", "moment_count", "check_coins", "check_way", "check_run", "check_waits", "coin_count"] : List Str) ++ (["power", "upper_moment", "above", "waiting_counts", "looks", "upper", "row_count", "alike_above", "_law_taken", "_law_pick", "_law_alike", "_law_choices", "_law_sets", "_law_house", "_law_moment", "_law_life", "_law_length", "_law_coins", "_law_upper", "_law_told"] : List Str) ++ (["_law_is_moment", "_law_wrong_story", "_law_wrong_life", "law", "WAYS"] : List Str), (["BadHouse", "BadStory", "BadLife", "BadCoins", "BadDrawer"] : List Str)⟩
def looseL : List Str := (["DrawerError", "BadHouse", "BadStory", "BadLife", "BadCoins", "BadDrawer", "BadNumber", "TooMany", "LEAST_CELLS", "MOST_CELLS", "is_number", "wrong_word", "check_house", "is_drawer", "check_drawer", "is_page", "coin_count", "is_coin", "drawn", "MOST_DEEDS"] : List Str) ++ (["MOST_MOMENTS", "MOST_SESSIONS", "is_deed", "is_moment", "check_story", "is_story", "is_session", "check_life", "is_life", "moment_count", "check_coins", "upper_moment", "above", "upper", "alike_above", "power", "rows_of", "coin_rows", "WAYS", "check_way"] : List Str) ++ (["Store", "check_run", "run", "opened", "seen", "looks", "MOST_ROWS", "check_rows", "row_count", "wait_counts", "check_waits", "waiting_counts", "_law_taken", "_law_pick", "_law_alike", "_law_choices", "_law_sets", "_law_house", "_law_moment", "_law_life"] : List Str) ++ (["_law_length", "_law_coins", "_law_upper", "_law_told", "_law_is_moment", "_law_wrong_story", "_law_wrong_life"] : List Str)
theorem ok_BadStory_init {CX : CXT} {P : Program} {w : World} {K : PySem.W.Frag} {mg : Str → Option Value} {base : Heap} {CB : Addr} {f : Addr} {fd : FuncData} (F : FunD K "__init__" "BadStory.__init__" (defArgs s_BadStory___init__) (defBody s_BadStory___init__) (defScope s_BadStory___init__) [] [] f fd) (T : OexC K CB) (no : PySem.W.findIn K (.ref CB) "index" = some none) :
    FnOk P w K mg base CX 1 f fd ["self", "index"] (spInit CB "index") := by
  refine F.ok (CX := CX) sc_BadStory___init__ (fun vs H Q E h => ?_) (fun cdv A outer s H vs Q E hr h => ?_)
  · obtain ⟨a, x, rfl, _⟩ := h
    rfl
  · obtain ⟨a, x, rfl, ha, q⟩ := h
    exact ⟨_, pss_one (ps_ost (pv 0) (pv 1)), x, rfl, .ref a, rfl, a, CB, rfl, T, no, .inl ⟨ha, fun dx n1 n2 => q dx n1 n2⟩⟩
theorem ok_BadLife_init {CX : CXT} {P : Program} {w : World} {K : PySem.W.Frag} {mg : Str → Option Value} {base : Heap} {CB : Addr} {f : Addr} {fd : FuncData} (F : FunD K "__init__" "BadLife.__init__" (defArgs s_BadLife___init__) (defBody s_BadLife___init__) (defScope s_BadLife___init__) [] [] f fd) (T : OexC K CB) (no : PySem.W.findIn K (.ref CB) "index" = some none) :
    FnOk P w K mg base CX 1 f fd ["self", "index"] (spInit CB "index") := by
  refine F.ok (CX := CX) sc_BadLife___init__ (fun vs H Q E h => ?_) (fun cdv A outer s H vs Q E hr h => ?_)
  · obtain ⟨a, x, rfl, _⟩ := h
    rfl
  · obtain ⟨a, x, rfl, ha, q⟩ := h
    exact ⟨_, pss_one (ps_ost (pv 0) (pv 1)), x, rfl, .ref a, rfl, a, CB, rfl, T, no, .inl ⟨ha, fun dx n1 n2 => q dx n1 n2⟩⟩
theorem ok_BadCoins_init {CX : CXT} {P : Program} {w : World} {K : PySem.W.Frag} {mg : Str → Option Value} {base : Heap} {CB : Addr} {f : Addr} {fd : FuncData} (F : FunD K "__init__" "BadCoins.__init__" (defArgs s_BadCoins___init__) (defBody s_BadCoins___init__) (defScope s_BadCoins___init__) [] [] f fd) (T : OexC K CB) (no : PySem.W.findIn K (.ref CB) "index" = some none) :
    FnOk P w K mg base CX 1 f fd ["self", "index"] (spInit CB "index") := by
  refine F.ok (CX := CX) sc_BadCoins___init__ (fun vs H Q E h => ?_) (fun cdv A outer s H vs Q E hr h => ?_)
  · obtain ⟨a, x, rfl, _⟩ := h
    rfl
  · obtain ⟨a, x, rfl, ha, q⟩ := h
    exact ⟨_, pss_one (ps_ost (pv 0) (pv 1)), x, rfl, .ref a, rfl, a, CB, rfl, T, no, .inl ⟨ha, fun dx n1 n2 => q dx n1 n2⟩⟩
abbrev PP : Program := PySem.Challenge.rw_hushdrawers_k01_whole_lives.prog
section
variable {w : World} {K : PySem.W.Frag} {mg : Str → Option Value} {base h : Heap}
theorem facts {f : Addr} (X : K.In h) (G : h.Ns mainGlobals mg) (hfa : mg ("law" : Str) = some (.ref f)) (c : He.SaysX faL fnL [] tfL exL w h K) : LamX.LawAtS PySem.Challenge.rw_hushdrawers_k01_whole_lives w K (L2.CX PP w) 15 63 "script" mg f h := by
  have cd : He.SaysD faL fnL K := c.t.d
  have glo : ∀ i x, glos[i]? = some x → mg x = some (.ref (He.ga K x)) := fun i x hx => He.glo_ok X G (cd.facts (f := .glo x) (List.mem_append_left _ (List.mem_map_of_mem (List.mem_of_getElem? hx))))
  have fre : ∀ i x, frees[i]? = some x → mg x = none := fun i x hx => He.free_ok X G (cd.facts (f := .free x) (List.mem_append_right _ (List.mem_append_left _ (List.mem_map_of_mem (List.mem_of_getElem? hx)))))
  have oth : ∀ i (q : He.Fa), othL[i]? = some q → q.ok K = true := fun i q hq => cd.facts (List.mem_append_right _ (List.mem_append_right _ (List.mem_append_left _ (List.mem_of_getElem? hq))))
  have exm : ∀ p, p ∈ pairsL → PySem.W.exmOne K (.ref (He.ga K (nm p.1))) (.ref (He.ga K (nm p.2))) = some (p.1 == p.2) := fun p hp => He.exm_ok (cd.facts (f := .exm (nm p.1) (nm p.2) (p.1 == p.2)) (List.mem_append_right _ (List.mem_append_right _ (List.mem_append_right _ (List.mem_map_of_mem (f := fun p : Nat × Nat => He.Fa.exm (nm p.1) (nm p.2) (p.1 == p.2)) hp)))))
  have ex := c.more
  unfold exL at ex
  simp only [Bool.and_eq_true] at ex
  obtain ⟨x_LEAST_CELLS, x_MOST_CELLS, x_MOST_DEEDS, x_MOST_MOMENTS, x_MOST_SESSIONS, x_comb, x_WAYS, x_BadHouse, x_BadStory, x_BadLife, x_BadCoins, x_na⟩ := ex
  obtain ⟨tk_LEAST_CELLS, i_LEAST_CELLS⟩ := gIntB_ok X G x_LEAST_CELLS
  obtain ⟨tk_MOST_CELLS, i_MOST_CELLS⟩ := gIntB_ok X G x_MOST_CELLS
  obtain ⟨tk_MOST_DEEDS, i_MOST_DEEDS⟩ := gIntB_ok X G x_MOST_DEEDS
  obtain ⟨tk_MOST_MOMENTS, i_MOST_MOMENTS⟩ := gIntB_ok X G x_MOST_MOMENTS
  obtain ⟨tk_MOST_SESSIONS, i_MOST_SESSIONS⟩ := gIntB_ok X G x_MOST_SESSIONS
  have B : Blt mg := ⟨fre 0 _ rfl, fre 1 _ rfl, fre 2 _ rfl, fre 3 _ rfl, fre 4 _ rfl, fre 5 _ rfl, fre 6 _ rfl, fre 7 _ rfl, fre 8 _ rfl, fre 9 _ rfl, fre 10 _ rfl, gBltB_ok X G x_comb, ⟨tk_LEAST_CELLS, i_LEAST_CELLS⟩, ⟨tk_MOST_CELLS, i_MOST_CELLS⟩⟩
  obtain ⟨fd_is_number, F0_is_number⟩ := cd.def_ 0 (d := dOf "is_number" s_is_number) rfl
  have F_is_number : FnP K "is_number" s_is_number (He.ga K "is_number") fd_is_number := F0_is_number
  have b_is_number : Binds K fd_is_number ["value", "least", "most"] [] := FunD.bindsN F0_is_number (fun _ _ _ _ _ _ us hl => match us, hl with | [_, _, _], _ => rfl)
  have m_is_number := glo 0 "is_number" rfl
  obtain ⟨fd_wrong_word, F0_wrong_word⟩ := cd.def_ 1 (d := dOf "wrong_word" s_wrong_word) rfl
  have F_wrong_word : FnP K "wrong_word" s_wrong_word (He.ga K "wrong_word") fd_wrong_word := F0_wrong_word
  have b_wrong_word : Binds K fd_wrong_word ["value"] [] := FunD.bindsN F0_wrong_word (fun _ _ _ _ _ _ us hl => match us, hl with | [_], _ => rfl)
  have m_wrong_word := glo 1 "wrong_word" rfl
  obtain ⟨fd_check_house, F0_check_house⟩ := cd.def_ 2 (d := dOf "check_house" s_check_house) rfl
  have F_check_house : FnP K "check_house" s_check_house (He.ga K "check_house") fd_check_house := F0_check_house
  have b_check_house : Binds K fd_check_house ["house"] [] := FunD.bindsN F0_check_house (fun _ _ _ _ _ _ us hl => match us, hl with | [_], _ => rfl)
  have m_check_house := glo 2 "check_house" rfl
  obtain ⟨fd_is_drawer, F0_is_drawer⟩ := cd.def_ 3 (d := dOf "is_drawer" s_is_drawer) rfl
  have F_is_drawer : FnP K "is_drawer" s_is_drawer (He.ga K "is_drawer") fd_is_drawer := F0_is_drawer
  have b_is_drawer : Binds K fd_is_drawer ["house", "value"] [] := FunD.bindsN F0_is_drawer (fun _ _ _ _ _ _ us hl => match us, hl with | [_, _], _ => rfl)
  have m_is_drawer := glo 3 "is_drawer" rfl
  obtain ⟨fd_check_drawer, F0_check_drawer⟩ := cd.def_ 4 (d := dOf "check_drawer" s_check_drawer) rfl
  have F_check_drawer : FnP K "check_drawer" s_check_drawer (He.ga K "check_drawer") fd_check_drawer := F0_check_drawer
  have b_check_drawer : Binds K fd_check_drawer ["house", "drawer"] [] := FunD.bindsN F0_check_drawer (fun _ _ _ _ _ _ us hl => match us, hl with | [_, _], _ => rfl)
  have m_check_drawer := glo 4 "check_drawer" rfl
  obtain ⟨fd_is_page, F0_is_page⟩ := cd.def_ 5 (d := dOf "is_page" s_is_page) rfl
  have F_is_page : FnP K "is_page" s_is_page (He.ga K "is_page") fd_is_page := F0_is_page
  have b_is_page : Binds K fd_is_page ["house", "value"] [] := FunD.bindsN F0_is_page (fun _ _ _ _ _ _ us hl => match us, hl with | [_, _], _ => rfl)
  have m_is_page := glo 5 "is_page" rfl
  obtain ⟨fd_is_coin, F0_is_coin⟩ := cd.def_ 6 (d := dOf "is_coin" s_is_coin) rfl
  have F_is_coin : FnP K "is_coin" s_is_coin (He.ga K "is_coin") fd_is_coin := F0_is_coin
  have b_is_coin : Binds K fd_is_coin ["house", "value"] [] := FunD.bindsN F0_is_coin (fun _ _ _ _ _ _ us hl => match us, hl with | [_, _], _ => rfl)
  have m_is_coin := glo 6 "is_coin" rfl
  obtain ⟨fd_is_deed, F0_is_deed⟩ := cd.def_ 7 (d := dOf "is_deed" s_is_deed) rfl
  have F_is_deed : FnP K "is_deed" s_is_deed (He.ga K "is_deed") fd_is_deed := F0_is_deed
  have b_is_deed : Binds K fd_is_deed ["house", "value"] [] := FunD.bindsN F0_is_deed (fun _ _ _ _ _ _ us hl => match us, hl with | [_, _], _ => rfl)
  have m_is_deed := glo 7 "is_deed" rfl
  obtain ⟨fd_is_moment, F0_is_moment⟩ := cd.def_ 8 (d := dOf "is_moment" s_is_moment) rfl
  have F_is_moment : FnP K "is_moment" s_is_moment (He.ga K "is_moment") fd_is_moment := F0_is_moment
  have b_is_moment : Binds K fd_is_moment ["house", "value"] [] := FunD.bindsN F0_is_moment (fun _ _ _ _ _ _ us hl => match us, hl with | [_, _], _ => rfl)
  have m_is_moment := glo 8 "is_moment" rfl
  obtain ⟨fd_check_story, F0_check_story⟩ := cd.def_ 9 (d := dOf "check_story" s_check_story) rfl
  have F_check_story : FnP K "check_story" s_check_story (He.ga K "check_story") fd_check_story := F0_check_story
  have b_check_story : Binds K fd_check_story ["house", "story"] [] := FunD.bindsN F0_check_story (fun _ _ _ _ _ _ us hl => match us, hl with | [_, _], _ => rfl)
  have m_check_story := glo 9 "check_story" rfl
  obtain ⟨fd_is_story, F0_is_story⟩ := cd.def_ 10 (d := dOf "is_story" s_is_story) rfl
  have F_is_story : FnP K "is_story" s_is_story (He.ga K "is_story") fd_is_story := F0_is_story
  have b_is_story : Binds K fd_is_story ["house", "value"] [] := FunD.bindsN F0_is_story (fun _ _ _ _ _ _ us hl => match us, hl with | [_, _], _ => rfl)
  have m_is_story := glo 10 "is_story" rfl
  obtain ⟨fd_is_session, F0_is_session⟩ := cd.def_ 11 (d := dOf "is_session" s_is_session) rfl
  have F_is_session : FnP K "is_session" s_is_session (He.ga K "is_session") fd_is_session := F0_is_session
  have b_is_session : Binds K fd_is_session ["house", "value"] [] := FunD.bindsN F0_is_session (fun _ _ _ _ _ _ us hl => match us, hl with | [_, _], _ => rfl)
  have m_is_session := glo 11 "is_session" rfl
  obtain ⟨fd_check_life, F0_check_life⟩ := cd.def_ 12 (d := dOf "check_life" s_check_life) rfl
  have F_check_life : FnP K "check_life" s_check_life (He.ga K "check_life") fd_check_life := F0_check_life
  have b_check_life : Binds K fd_check_life ["house", "life"] [] := FunD.bindsN F0_check_life (fun _ _ _ _ _ _ us hl => match us, hl with | [_, _], _ => rfl)
  have m_check_life := glo 12 "check_life" rfl
  obtain ⟨fd_is_life, F0_is_life⟩ := cd.def_ 13 (d := dOf "is_life" s_is_life) rfl
  have F_is_life : FnP K "is_life" s_is_life (He.ga K "is_life") fd_is_life := F0_is_life
  have b_is_life : Binds K fd_is_life ["house", "value"] [] := FunD.bindsN F0_is_life (fun _ _ _ _ _ _ us hl => match us, hl with | [_, _], _ => rfl)
  have m_is_life := glo 13 "is_life" rfl
  obtain ⟨fd_moment_count, F0_moment_count⟩ := cd.def_ 14 (d := dOf "moment_count" s_moment_count) rfl
  have F_moment_count : FnP K "moment_count" s_moment_count (He.ga K "moment_count") fd_moment_count := F0_moment_count
  have b_moment_count : Binds K fd_moment_count ["life"] [] := FunD.bindsN F0_moment_count (fun _ _ _ _ _ _ us hl => match us, hl with | [_], _ => rfl)
  have m_moment_count := glo 14 "moment_count" rfl
  obtain ⟨fd_check_coins, F0_check_coins⟩ := cd.def_ 15 (d := dOf "check_coins" s_check_coins) rfl
  have F_check_coins : FnP K "check_coins" s_check_coins (He.ga K "check_coins") fd_check_coins := F0_check_coins
  have b_check_coins : Binds K fd_check_coins ["house", "life", "coins"] [] := FunD.bindsN F0_check_coins (fun _ _ _ _ _ _ us hl => match us, hl with | [_, _, _], _ => rfl)
  have m_check_coins := glo 15 "check_coins" rfl
  obtain ⟨fd_check_way, F0_check_way⟩ := cd.def_ 16 (d := dOf "check_way" s_check_way) rfl
  have F_check_way : FnP K "check_way" s_check_way (He.ga K "check_way") fd_check_way := F0_check_way
  have b_check_way : Binds K fd_check_way ["way"] [] := FunD.bindsN F0_check_way (fun _ _ _ _ _ _ us hl => match us, hl with | [_], _ => rfl)
  have m_check_way := glo 16 "check_way" rfl
  obtain ⟨fd_check_run, F0_check_run⟩ := cd.def_ 17 (d := dOf "check_run" s_check_run) rfl
  have F_check_run : FnP K "check_run" s_check_run (He.ga K "check_run") fd_check_run := F0_check_run
  have b_check_run : Binds K fd_check_run ["house", "way", "life", "coins"] [] := FunD.bindsN F0_check_run (fun _ _ _ _ _ _ us hl => match us, hl with | [_, _, _, _], _ => rfl)
  have m_check_run := glo 17 "check_run" rfl
  obtain ⟨fd_check_waits, F0_check_waits⟩ := cd.def_ 18 (d := dOf "check_waits" s_check_waits) rfl
  have F_check_waits : FnP K "check_waits" s_check_waits (He.ga K "check_waits") fd_check_waits := F0_check_waits
  have b_check_waits : Binds K fd_check_waits ["house", "way", "story", "drawer"] [] := FunD.bindsN F0_check_waits (fun _ _ _ _ _ _ us hl => match us, hl with | [_, _, _, _], _ => rfl)
  have m_check_waits := glo 18 "check_waits" rfl
  obtain ⟨fd_coin_count, F0_coin_count⟩ := cd.def_ 19 (d := dOf "coin_count" s_coin_count) rfl
  have F_coin_count : FnP K "coin_count" s_coin_count (He.ga K "coin_count") fd_coin_count := F0_coin_count
  have b_coin_count : Binds K fd_coin_count ["house"] [] := FunD.bindsN F0_coin_count (fun _ _ _ _ _ _ us hl => match us, hl with | [_], _ => rfl)
  have m_coin_count := glo 19 "coin_count" rfl
  obtain ⟨fd_power, F0_power⟩ := cd.def_ 20 (d := dOf "power" s_power) rfl
  have F_power : FnP K "power" s_power (He.ga K "power") fd_power := F0_power
  have b_power : Binds K fd_power ["base", "many"] [] := FunD.bindsN F0_power (fun _ _ _ _ _ _ us hl => match us, hl with | [_, _], _ => rfl)
  have m_power := glo 20 "power" rfl
  obtain ⟨fd_upper_moment, F0_upper_moment⟩ := cd.def_ 21 (d := dOf "upper_moment" s_upper_moment) rfl
  have F_upper_moment : FnP K "upper_moment" s_upper_moment (He.ga K "upper_moment") fd_upper_moment := F0_upper_moment
  have b_upper_moment : Binds K fd_upper_moment ["moment", "drawer"] [] := FunD.bindsN F0_upper_moment (fun _ _ _ _ _ _ us hl => match us, hl with | [_, _], _ => rfl)
  have m_upper_moment := glo 21 "upper_moment" rfl
  obtain ⟨fd_above, F0_above⟩ := cd.def_ 22 (d := dOf "above" s_above) rfl
  have F_above : FnP K "above" s_above (He.ga K "above") fd_above := F0_above
  have b_above : Binds K fd_above ["life", "drawer"] [] := FunD.bindsN F0_above (fun _ _ _ _ _ _ us hl => match us, hl with | [_, _], _ => rfl)
  have m_above := glo 22 "above" rfl
  obtain ⟨fd_waiting_counts, F0_waiting_counts⟩ := cd.def_ 23 (d := dOf "waiting_counts" s_waiting_counts) rfl
  have F_waiting_counts : FnP K "waiting_counts" s_waiting_counts (He.ga K "waiting_counts") fd_waiting_counts := F0_waiting_counts
  have b_waiting_counts : Binds K fd_waiting_counts ["house", "way", "story", "drawer"] [] := FunD.bindsN F0_waiting_counts (fun _ _ _ _ _ _ us hl => match us, hl with | [_, _, _, _], _ => rfl)
  have m_waiting_counts := glo 23 "waiting_counts" rfl
  obtain ⟨fd_looks, F0_looks⟩ := cd.def_ 24 (d := dOf "looks" s_looks) rfl
  have F_looks : FnP K "looks" s_looks (He.ga K "looks") fd_looks := F0_looks
  have b_looks : Binds K fd_looks ["house", "way", "life", "coins", "drawer"] [] := FunD.bindsN F0_looks (fun _ _ _ _ _ _ us hl => match us, hl with | [_, _, _, _, _], _ => rfl)
  have m_looks := glo 24 "looks" rfl
  obtain ⟨fd_upper, F0_upper⟩ := cd.def_ 25 (d := dOf "upper" s_upper) rfl
  have F_upper : FnP K "upper" s_upper (He.ga K "upper") fd_upper := F0_upper
  have b_upper : Binds K fd_upper ["house", "life", "drawer"] [] := FunD.bindsN F0_upper (fun _ _ _ _ _ _ us hl => match us, hl with | [_, _, _], _ => rfl)
  have m_upper := glo 25 "upper" rfl
  obtain ⟨fd_row_count, F0_row_count⟩ := cd.def_ 26 (d := dOf "row_count" s_row_count) rfl
  have F_row_count : FnP K "row_count" s_row_count (He.ga K "row_count") fd_row_count := F0_row_count
  have b_row_count : Binds K fd_row_count ["house", "life"] [] := FunD.bindsN F0_row_count (fun _ _ _ _ _ _ us hl => match us, hl with | [_, _], _ => rfl)
  have m_row_count := glo 26 "row_count" rfl
  obtain ⟨fd_alike_above, F0_alike_above⟩ := cd.def_ 27 (d := dOf "alike_above" s_alike_above) rfl
  have F_alike_above : FnP K "alike_above" s_alike_above (He.ga K "alike_above") fd_alike_above := F0_alike_above
  have b_alike_above : Binds K fd_alike_above ["house", "one", "other", "drawer"] [] := FunD.bindsN F0_alike_above (fun _ _ _ _ _ _ us hl => match us, hl with | [_, _, _, _], _ => rfl)
  have m_alike_above := glo 27 "alike_above" rfl
  obtain ⟨fd__law_taken, F0__law_taken⟩ := cd.def_ 28 (d := dOf "_law_taken" s__law_taken) rfl
  have F__law_taken : FnP K "_law_taken" s__law_taken (He.ga K "_law_taken") fd__law_taken := F0__law_taken
  have b__law_taken : Binds K fd__law_taken ["row", "many"] [] := FunD.bindsN F0__law_taken (fun _ _ _ _ _ _ us hl => match us, hl with | [_, _], _ => rfl)
  have m__law_taken := glo 28 "_law_taken" rfl
  obtain ⟨fd__law_pick, F0__law_pick⟩ := cd.def_ 29 (d := dOf "_law_pick" s__law_pick) rfl
  have F__law_pick : FnP K "_law_pick" s__law_pick (He.ga K "_law_pick") fd__law_pick := F0__law_pick
  have b__law_pick : Binds K fd__law_pick ["row", "things"] [] := FunD.bindsN F0__law_pick (fun _ _ _ _ _ _ us hl => match us, hl with | [_, _], _ => rfl)
  have m__law_pick := glo 29 "_law_pick" rfl
  obtain ⟨fd__law_alike, F0__law_alike⟩ := cd.def_ 30 (d := dOf "_law_alike" s__law_alike) rfl
  have F__law_alike : FnP K "_law_alike" s__law_alike (He.ga K "_law_alike") fd__law_alike := F0__law_alike
  have b__law_alike : Binds K fd__law_alike ["found", "due"] [] := FunD.bindsN F0__law_alike (fun _ _ _ _ _ _ us hl => match us, hl with | [_, _], _ => rfl)
  have m__law_alike := glo 30 "_law_alike" rfl
  obtain ⟨fd__law_choices, F0__law_choices⟩ := cd.def_ 31 (d := dOf "_law_choices" s__law_choices) rfl
  have F__law_choices : FnP K "_law_choices" s__law_choices (He.ga K "_law_choices") fd__law_choices := F0__law_choices
  have b__law_choices : Binds K fd__law_choices ["many", "some"] [] := FunD.bindsN F0__law_choices (fun _ _ _ _ _ _ us hl => match us, hl with | [_, _], _ => rfl)
  have m__law_choices := glo 31 "_law_choices" rfl
  obtain ⟨fd__law_sets, F0__law_sets⟩ := cd.def_ 32 (d := dOf "_law_sets" s__law_sets) rfl
  have F__law_sets : FnP K "_law_sets" s__law_sets (He.ga K "_law_sets") fd__law_sets := F0__law_sets
  have b__law_sets : Binds K fd__law_sets ["cells", "many"] [] := FunD.bindsN F0__law_sets (fun _ _ _ _ _ _ us hl => match us, hl with | [_, _], _ => rfl)
  have m__law_sets := glo 32 "_law_sets" rfl
  obtain ⟨fd__law_house, F0__law_house⟩ := cd.def_ 33 (d := dOf "_law_house" s__law_house) rfl
  have F__law_house : FnP K "_law_house" s__law_house (He.ga K "_law_house") fd__law_house := F0__law_house
  have b__law_house : Binds K fd__law_house ["row", "most"] [] := FunD.bindsN F0__law_house (fun _ _ _ _ _ _ us hl => match us, hl with | [_, _], _ => rfl)
  have m__law_house := glo 33 "_law_house" rfl
  obtain ⟨fd__law_moment, F0__law_moment⟩ := cd.def_ 34 (d := dOf "_law_moment" s__law_moment) rfl
  have F__law_moment : FnP K "_law_moment" s__law_moment (He.ga K "_law_moment") fd__law_moment := F0__law_moment
  have b__law_moment : Binds K fd__law_moment ["row", "house", "deepest", "most"] [] := FunD.bindsN F0__law_moment (fun _ _ _ _ _ _ us hl => match us, hl with | [_, _, _, _], _ => rfl)
  have m__law_moment := glo 34 "_law_moment" rfl
  obtain ⟨fd__law_life, F0__law_life⟩ := cd.def_ 35 (d := dOf "_law_life" s__law_life) rfl
  have F__law_life : FnP K "_law_life" s__law_life (He.ga K "_law_life") fd__law_life := F0__law_life
  have b__law_life : Binds K fd__law_life ["row", "house", "moments"] [] := FunD.bindsN F0__law_life (fun _ _ _ _ _ _ us hl => match us, hl with | [_, _, _], _ => rfl)
  have m__law_life := glo 35 "_law_life" rfl
  obtain ⟨fd__law_length, F0__law_length⟩ := cd.def_ 36 (d := dOf "_law_length" s__law_length) rfl
  have F__law_length : FnP K "_law_length" s__law_length (He.ga K "_law_length") fd__law_length := F0__law_length
  have b__law_length : Binds K fd__law_length ["life"] [] := FunD.bindsN F0__law_length (fun _ _ _ _ _ _ us hl => match us, hl with | [_], _ => rfl)
  have m__law_length := glo 36 "_law_length" rfl
  obtain ⟨fd__law_coins, F0__law_coins⟩ := cd.def_ 37 (d := dOf "_law_coins" s__law_coins) rfl
  have F__law_coins : FnP K "_law_coins" s__law_coins (He.ga K "_law_coins") fd__law_coins := F0__law_coins
  have b__law_coins : Binds K fd__law_coins ["row", "house", "many"] [] := FunD.bindsN F0__law_coins (fun _ _ _ _ _ _ us hl => match us, hl with | [_, _, _], _ => rfl)
  have m__law_coins := glo 37 "_law_coins" rfl
  obtain ⟨fd__law_upper, F0__law_upper⟩ := cd.def_ 38 (d := dOf "_law_upper" s__law_upper) rfl
  have F__law_upper : FnP K "_law_upper" s__law_upper (He.ga K "_law_upper") fd__law_upper := F0__law_upper
  have b__law_upper : Binds K fd__law_upper ["life", "drawer"] [] := FunD.bindsN F0__law_upper (fun _ _ _ _ _ _ us hl => match us, hl with | [_, _], _ => rfl)
  have m__law_upper := glo 38 "_law_upper" rfl
  obtain ⟨fd__law_told, F0__law_told⟩ := cd.def_ 39 (d := dOf "_law_told" s__law_told) rfl
  have F__law_told : FnP K "_law_told" s__law_told (He.ga K "_law_told") fd__law_told := F0__law_told
  have b__law_told : Binds K fd__law_told ["work"] [] := FunD.bindsN F0__law_told (fun _ _ _ _ _ _ us hl => match us, hl with | [_], _ => rfl)
  have m__law_told := glo 39 "_law_told" rfl
  obtain ⟨fd__law_is_moment, F0__law_is_moment⟩ := cd.def_ 40 (d := dOf "_law_is_moment" s__law_is_moment) rfl
  have F__law_is_moment : FnP K "_law_is_moment" s__law_is_moment (He.ga K "_law_is_moment") fd__law_is_moment := F0__law_is_moment
  have b__law_is_moment : Binds K fd__law_is_moment ["house", "value", "deepest"] [] := FunD.bindsN F0__law_is_moment (fun _ _ _ _ _ _ us hl => match us, hl with | [_, _, _], _ => rfl)
  have m__law_is_moment := glo 40 "_law_is_moment" rfl
  obtain ⟨fd__law_wrong_story, F0__law_wrong_story⟩ := cd.def_ 41 (d := dOf "_law_wrong_story" s__law_wrong_story) rfl
  have F__law_wrong_story : FnP K "_law_wrong_story" s__law_wrong_story (He.ga K "_law_wrong_story") fd__law_wrong_story := F0__law_wrong_story
  have b__law_wrong_story : Binds K fd__law_wrong_story ["house", "value", "deepest"] [] := FunD.bindsN F0__law_wrong_story (fun _ _ _ _ _ _ us hl => match us, hl with | [_, _, _], _ => rfl)
  have m__law_wrong_story := glo 41 "_law_wrong_story" rfl
  obtain ⟨fd__law_wrong_life, F0__law_wrong_life⟩ := cd.def_ 42 (d := dOf "_law_wrong_life" s__law_wrong_life) rfl
  have F__law_wrong_life : FnP K "_law_wrong_life" s__law_wrong_life (He.ga K "_law_wrong_life") fd__law_wrong_life := F0__law_wrong_life
  have b__law_wrong_life : Binds K fd__law_wrong_life ["house", "value"] [] := FunD.bindsN F0__law_wrong_life (fun _ _ _ _ _ _ us hl => match us, hl with | [_, _], _ => rfl)
  have m__law_wrong_life := glo 42 "_law_wrong_life" rfl
  obtain ⟨fd_law, F0_law⟩ := cd.def_ 43 (d := dOf "law" s_law) rfl
  have F_law : FnP K "law" s_law (He.ga K "law") fd_law := F0_law
  have b_law : Binds K fd_law ["script"] [] := FunD.bindsN F0_law (fun _ _ _ _ _ _ us hl => match us, hl with | [_], _ => rfl)
  have m_law := glo 43 "law" rfl
  obtain ⟨fd_BadHouse, F0_BadHouse⟩ := cd.def_ 44 (d := ⟨("BadHouse", some "__init__"), "__init__", "BadHouse.__init__", defArgs s_BadHouse___init__, defBody s_BadHouse___init__, defScope s_BadHouse___init__, [], []⟩) rfl
  have b_BadHouse : Binds K fd_BadHouse ["self", "word"] [] := FunD.bindsN F0_BadHouse (fun _ _ _ _ _ _ us hl => match us, hl with | [_, _], _ => rfl)
  obtain ⟨T_BadHouse, XF_BadHouse, ty_BadHouse⟩ := ownB_ok x_BadHouse
  have no_BadHouse : PySem.W.findIn K (.ref (He.ga K "BadHouse")) "word" = some none := He.noat_ok (oth 0 (.noat "BadHouse" "word") rfl)
  have me_BadHouse := He.meth_ok (oth 4 (.meth "BadHouse" "__init__") rfl)
  obtain ⟨fd_BadStory, F0_BadStory⟩ := cd.def_ 45 (d := ⟨("BadStory", some "__init__"), "__init__", "BadStory.__init__", defArgs s_BadStory___init__, defBody s_BadStory___init__, defScope s_BadStory___init__, [], []⟩) rfl
  have b_BadStory : Binds K fd_BadStory ["self", "index"] [] := FunD.bindsN F0_BadStory (fun _ _ _ _ _ _ us hl => match us, hl with | [_, _], _ => rfl)
  obtain ⟨T_BadStory, XF_BadStory, ty_BadStory⟩ := ownB_ok x_BadStory
  have no_BadStory : PySem.W.findIn K (.ref (He.ga K "BadStory")) "index" = some none := He.noat_ok (oth 1 (.noat "BadStory" "index") rfl)
  have me_BadStory := He.meth_ok (oth 5 (.meth "BadStory" "__init__") rfl)
  obtain ⟨fd_BadLife, F0_BadLife⟩ := cd.def_ 46 (d := ⟨("BadLife", some "__init__"), "__init__", "BadLife.__init__", defArgs s_BadLife___init__, defBody s_BadLife___init__, defScope s_BadLife___init__, [], []⟩) rfl
  have b_BadLife : Binds K fd_BadLife ["self", "index"] [] := FunD.bindsN F0_BadLife (fun _ _ _ _ _ _ us hl => match us, hl with | [_, _], _ => rfl)
  obtain ⟨T_BadLife, XF_BadLife, ty_BadLife⟩ := ownB_ok x_BadLife
  have no_BadLife : PySem.W.findIn K (.ref (He.ga K "BadLife")) "index" = some none := He.noat_ok (oth 2 (.noat "BadLife" "index") rfl)
  have me_BadLife := He.meth_ok (oth 6 (.meth "BadLife" "__init__") rfl)
  obtain ⟨fd_BadCoins, F0_BadCoins⟩ := cd.def_ 47 (d := ⟨("BadCoins", some "__init__"), "__init__", "BadCoins.__init__", defArgs s_BadCoins___init__, defBody s_BadCoins___init__, defScope s_BadCoins___init__, [], []⟩) rfl
  have b_BadCoins : Binds K fd_BadCoins ["self", "index"] [] := FunD.bindsN F0_BadCoins (fun _ _ _ _ _ _ us hl => match us, hl with | [_, _], _ => rfl)
  obtain ⟨T_BadCoins, XF_BadCoins, ty_BadCoins⟩ := ownB_ok x_BadCoins
  have no_BadCoins : PySem.W.findIn K (.ref (He.ga K "BadCoins")) "index" = some none := He.noat_ok (oth 3 (.noat "BadCoins" "index") rfl)
  have me_BadCoins := He.meth_ok (oth 7 (.meth "BadCoins" "__init__") rfl)
  have ec_BadDrawer := He.exc_ok (oth 8 (.exc "BadDrawer") rfl)
  have em := hfa.symm.trans m_law
  cases em
  obtain ⟨c_law, hc_law, hco_law⟩ : ∃ c0, fd_law.code = .ref c0 ∧ He.codeOf K ("law", none) = c0 := by
    obtain ⟨oc, od, dV, kV, doc, pm, an, cdv, ct, osl, e, lk, hcd, _, _⟩ := F_law.ex
    rw [e] at lk
    obtain ⟨c0, h0⟩ := He.codeIn_ref hcd
    refine ⟨c0, by rw [e]; exact h0, He.codeOf_eq (p := ("law", none)) lk h0⟩
  obtain ⟨c_is_moment, hc_is_moment, hco_is_moment⟩ : ∃ c0, fd_is_moment.code = .ref c0 ∧ He.codeOf K ("is_moment", none) = c0 := by
    obtain ⟨oc, od, dV, kV, doc, pm, an, cdv, ct, osl, e, lk, hcd, _, _⟩ := F_is_moment.ex
    rw [e] at lk
    obtain ⟨c0, h0⟩ := He.codeIn_ref hcd
    refine ⟨c0, by rw [e]; exact h0, He.codeOf_eq (p := ("is_moment", none)) lk h0⟩
  obtain ⟨c_is_session, hc_is_session, hco_is_session⟩ : ∃ c0, fd_is_session.code = .ref c0 ∧ He.codeOf K ("is_session", none) = c0 := by
    obtain ⟨oc, od, dV, kV, doc, pm, an, cdv, ct, osl, e, lk, hcd, _, _⟩ := F_is_session.ex
    rw [e] at lk
    obtain ⟨c0, h0⟩ := He.codeIn_ref hcd
    refine ⟨c0, by rw [e]; exact h0, He.codeOf_eq (p := ("is_session", none)) lk h0⟩
  obtain ⟨c_moment_count, hc_moment_count, hco_moment_count⟩ : ∃ c0, fd_moment_count.code = .ref c0 ∧ He.codeOf K ("moment_count", none) = c0 := by
    obtain ⟨oc, od, dV, kV, doc, pm, an, cdv, ct, osl, e, lk, hcd, _, _⟩ := F_moment_count.ex
    rw [e] at lk
    obtain ⟨c0, h0⟩ := He.codeIn_ref hcd
    refine ⟨c0, by rw [e]; exact h0, He.codeOf_eq (p := ("moment_count", none)) lk h0⟩
  obtain ⟨c_upper_moment, hc_upper_moment, hco_upper_moment⟩ : ∃ c0, fd_upper_moment.code = .ref c0 ∧ He.codeOf K ("upper_moment", none) = c0 := by
    obtain ⟨oc, od, dV, kV, doc, pm, an, cdv, ct, osl, e, lk, hcd, _, _⟩ := F_upper_moment.ex
    rw [e] at lk
    obtain ⟨c0, h0⟩ := He.codeIn_ref hcd
    refine ⟨c0, by rw [e]; exact h0, He.codeOf_eq (p := ("upper_moment", none)) lk h0⟩
  obtain ⟨c_above, hc_above, hco_above⟩ : ∃ c0, fd_above.code = .ref c0 ∧ He.codeOf K ("above", none) = c0 := by
    obtain ⟨oc, od, dV, kV, doc, pm, an, cdv, ct, osl, e, lk, hcd, _, _⟩ := F_above.ex
    rw [e] at lk
    obtain ⟨c0, h0⟩ := He.codeIn_ref hcd
    refine ⟨c0, by rw [e]; exact h0, He.codeOf_eq (p := ("above", none)) lk h0⟩
  have allT : ∀ p ∈ tfL.map (He.cT K), ∃ n ∈ tfL, p = He.cT K n := fun p hp => let ⟨n, a, b⟩ := List.mem_map.mp hp; ⟨n, a, b.symm⟩
  have WX : ∀ i j, i < 4 → j ≤ i → PySem.W.exmOne K (.ref (He.ga K (nm i))) (.ref (He.ga K (nm j))) = some (i == j) := fun i j h1 h2 => exm (i, j) ((show ∀ i, i < 4 → ∀ j, j ≤ i → (i, j) ∈ pairsL by decide) i h1 j h2)
  let cs : Cs := ⟨He.ga K "BadHouse", He.ga K "BadStory", He.ga K "BadLife", He.ga K "BadCoins", He.ga K "BadDrawer", He.ga K "BadDrawer", He.ga K "BadDrawer", He.ga K "BadDrawer"⟩
  have at_ : ∀ i, cs.at i = He.ga K (nm i) := fun i => match i with
    | 0 => rfl
    | 1 => rfl
    | 2 => rfl
    | n + 3 => rfl
  let tb : Tb := ⟨(He.cT K ("is_moment", none)).2, (He.cT K ("is_session", none)).2, (He.cT K ("moment_count", none)).2, (He.cT K ("upper_moment", none)).2, (He.cT K ("above", none)).2⟩
  refine ⟨fd_law, tfL.map (He.cT K), spLaw K [] tb (He.cT K ("law", none)).2, fun p hp => ?_, fun p hp => ?_, fun p hp => ?_, fun s u => FunD.bindsA (ps := ["script"]) F0_law (fun _ _ _ _ _ _ us hl => match us, hl with | [_], _ => rfl) s [u] rfl, fun H a ns hl hb hP hS => ⟨a, ns, rfl, hS, fun p hp => ?_, fun _ => rfl⟩, fun base KB hns hTB => ?_⟩
  · obtain ⟨n, hn, rfl⟩ := allT p hp
    exact c.empty _ hn
  · obtain ⟨n, hn, rfl⟩ := allT p hp
    exact c.out _ hn
  · obtain ⟨n, hn, rfl⟩ := allT p hp
    exact PySem.W.codeHd_of_K X (c.hd _ hn)
  · simp only [List.mem_cons, List.mem_nil_iff, or_false] at hp
    rcases hp with rfl | rfl | rfl | rfl | rfl | rfl
    · exact hP _ (List.mem_of_getElem? (i := 0) rfl)
    · exact hP _ (List.mem_of_getElem? (i := 1) rfl)
    · exact hP _ (List.mem_of_getElem? (i := 2) rfl)
    · exact hP _ (List.mem_of_getElem? (i := 3) rfl)
    · exact hP _ (List.mem_of_getElem? (i := 4) rfl)
    · exact hP _ (List.mem_of_getElem? (i := 5) rfl)
  · have TB_law := hTB _ (List.mem_of_getElem? (i := 0) rfl)
    have TB_is_moment := hTB _ (List.mem_of_getElem? (i := 1) rfl)
    have TB_is_session := hTB _ (List.mem_of_getElem? (i := 2) rfl)
    have TB_moment_count := hTB _ (List.mem_of_getElem? (i := 3) rfl)
    have TB_upper_moment := hTB _ (List.mem_of_getElem? (i := 4) rfl)
    have TB_above := hTB _ (List.mem_of_getElem? (i := 5) rfl)
    have TL_law : LamX.TabB base mg c_law (He.cT K ("law", none)).2 := by
      rw [← hco_law]
      exact TB_law
    have CA_is_moment : CodeAt K mg base fd_is_moment c_is_moment (He.cT K ("is_moment", none)).2 := ⟨hc_is_moment, by rw [← hco_is_moment]; exact ⟨TB_is_moment.code, TB_is_moment.bm, TB_is_moment.gP⟩, ⟨("is_moment", none), List.mem_of_getElem? (i := 0) rfl, rfl⟩⟩
    have CA_is_session : CodeAt K mg base fd_is_session c_is_session (He.cT K ("is_session", none)).2 := ⟨hc_is_session, by rw [← hco_is_session]; exact ⟨TB_is_session.code, TB_is_session.bm, TB_is_session.gP⟩, ⟨("is_session", none), List.mem_of_getElem? (i := 1) rfl, rfl⟩⟩
    have CA_moment_count : CodeAt K mg base fd_moment_count c_moment_count (He.cT K ("moment_count", none)).2 := ⟨hc_moment_count, by rw [← hco_moment_count]; exact ⟨TB_moment_count.code, TB_moment_count.bm, TB_moment_count.gP⟩, ⟨("moment_count", none), List.mem_of_getElem? (i := 2) rfl, rfl⟩⟩
    have CA_upper_moment : CodeAt K mg base fd_upper_moment c_upper_moment (He.cT K ("upper_moment", none)).2 := ⟨hc_upper_moment, by rw [← hco_upper_moment]; exact ⟨TB_upper_moment.code, TB_upper_moment.bm, TB_upper_moment.gP⟩, ⟨("upper_moment", none), List.mem_of_getElem? (i := 3) rfl, rfl⟩⟩
    have CA_above : CodeAt K mg base fd_above c_above (He.cT K ("above", none)).2 := ⟨hc_above, by rw [← hco_above]; exact ⟨TB_above.code, TB_above.bm, TB_above.gP⟩, ⟨("above", none), List.mem_of_getElem? (i := 4) rfl, rfl⟩⟩
    have E_BadHouse : ErrF PP w K mg base "BadHouse" "word" (He.ga K "BadHouse") := ⟨T_BadHouse, XF_BadHouse, no_BadHouse, (glo 44 "BadHouse" rfl), _, fd_BadHouse, me_BadHouse.at_, ty_BadHouse, ok_BadHouse_init F0_BadHouse T_BadHouse no_BadHouse, b_BadHouse⟩
    have E_BadStory : ErrF PP w K mg base "BadStory" "index" (He.ga K "BadStory") := ⟨T_BadStory, XF_BadStory, no_BadStory, (glo 45 "BadStory" rfl), _, fd_BadStory, me_BadStory.at_, ty_BadStory, ok_BadStory_init F0_BadStory T_BadStory no_BadStory, b_BadStory⟩
    have E_BadLife : ErrF PP w K mg base "BadLife" "index" (He.ga K "BadLife") := ⟨T_BadLife, XF_BadLife, no_BadLife, (glo 46 "BadLife" rfl), _, fd_BadLife, me_BadLife.at_, ty_BadLife, ok_BadLife_init F0_BadLife T_BadLife no_BadLife, b_BadLife⟩
    have E_BadCoins : ErrF PP w K mg base "BadCoins" "index" (He.ga K "BadCoins") := ⟨T_BadCoins, XF_BadCoins, no_BadCoins, (glo 47 "BadCoins" rfl), _, fd_BadCoins, me_BadCoins.at_, ty_BadCoins, ok_BadCoins_init F0_BadCoins T_BadCoins no_BadCoins, b_BadCoins⟩
    have E_BadDrawer : ErrP K mg "BadDrawer" (He.ga K "BadDrawer") := ⟨ec_BadDrawer.1, ec_BadDrawer.2.1, ec_BadDrawer.2.2.1, ec_BadDrawer.2.2.2, (glo 48 "BadDrawer" rfl)⟩
    have N_is_number : Fn PP w K mg base CX0 1 "is_number" ["value", "least", "most"] (spNumber K) _ _ := ⟨ok_number (CX := CX0) F_is_number B, m_is_number, F_is_number.kp, b_is_number⟩
    have N_wrong_word : Fn PP w K mg base CX0 2 "wrong_word" ["value"] (spWrong K) _ _ := ⟨ok_wrong (CX := CX0) F_wrong_word B ⟨N_is_number.G, N_is_number.m, N_is_number.k, N_is_number.b⟩, m_wrong_word, F_wrong_word.kp, b_wrong_word⟩
    have N_check_house : Fn PP w K mg base (L2.CX PP w) 3 "check_house" ["house"] (spCheck K cs.B) _ _ := ⟨ok_check F_check_house N_wrong_word E_BadHouse, m_check_house, F_check_house.kp, b_check_house⟩
    have N_is_drawer : Fn PP w K mg base CX0 2 "is_drawer" ["house", "value"] (spDrawer K) _ _ := ⟨ok_is_drawer (CX := CX0) F_is_drawer N_is_number, m_is_drawer, F_is_drawer.kp, b_is_drawer⟩
    have N_check_drawer : Fn PP w K mg base (L2.CX PP w) 3 "check_drawer" ["house", "drawer"] (spChk K (fun d _ => d) cs.D) _ _ := ⟨ok_check_drawer F_check_drawer N_is_drawer E_BadDrawer, m_check_drawer, F_check_drawer.kp, b_check_drawer⟩
    have N_is_page : Fn PP w K mg base CX0 2 "is_page" ["house", "value"] (spPage K) _ _ := ⟨ok_is_page (CX := CX0) F_is_page N_is_number, m_is_page, F_is_page.kp, b_is_page⟩
    have N_is_coin : Fn PP w K mg base CX0 2 "is_coin" ["house", "value"] (spIsCoin K) _ _ := ⟨ok_is_coin (CX := CX0) F_is_coin N_is_number B, m_is_coin, F_is_coin.kp, b_is_coin⟩
    have N_is_deed : Fn PP w K mg base CX0 3 "is_deed" ["house", "value"] (spDeed K) _ _ := ⟨ok_is_deed (CX := CX0) F_is_deed B N_is_number N_is_drawer N_is_page, m_is_deed, F_is_deed.kp, b_is_deed⟩
    have hall : mg "all" = none := fre 11 _ rfl
    have N_is_moment : Fn PP w K mg base CX0 5 "is_moment" ["house", "value"] (spMoment K tb.m) _ _ := ⟨ok_is_moment (CX := CX0) F_is_moment B hall i_MOST_DEEDS CA_is_moment N_is_deed, m_is_moment, F_is_moment.kp, b_is_moment⟩
    have N_check_story : Fn PP w K mg base (L2.CX PP w) 6 "check_story" ["house", "story"] (spStory K cs.S tb.m) _ _ := ⟨ok_check_story F_check_story B i_MOST_MOMENTS N_is_moment E_BadStory, m_check_story, F_check_story.kp, b_check_story⟩
    have N1_is_story : Fn PP w K mg base (L2.CX PP w) 7 "is_story" ["house", "value"] (spIsStory K tb.m) _ _ := ⟨ok_is_story F_is_story N_check_house N_check_story (glo 45 "BadStory" rfl) (exm (0, 0) (by decide)), m_is_story, F_is_story.kp, b_is_story⟩
    have N_is_session : Fn PP w K mg base (L2.CX PP w) 8 "is_session" ["house", "value"] (spSession K tb.m tb.s) _ _ := ⟨ok_is_session F_is_session B hall CA_is_session N_is_drawer N1_is_story, m_is_session, F_is_session.kp, b_is_session⟩
    have N_check_life : Fn PP w K mg base (L2.CX PP w) 9 "check_life" ["house", "life"] (spLife K cs.L tb.m tb.s) _ _ := ⟨ok_check_life F_check_life B i_MOST_SESSIONS i_MOST_MOMENTS N_is_session E_BadLife, m_check_life, F_check_life.kp, b_check_life⟩
    have N_moment_count : Fn PP w K mg base CX0 2 "moment_count" ["life"] (spMany K tb.n) _ _ := ⟨ok_many (CX := CX0) F_moment_count B CA_moment_count, m_moment_count, F_moment_count.kp, b_moment_count⟩
    have N_check_coins : Fn PP w K mg base (L2.CX PP w) 3 "check_coins" ["house", "life", "coins"] (spCoins K cs.C tb.n) _ _ := ⟨ok_check_coins F_check_coins B N_moment_count N_is_coin E_BadCoins, m_check_coins, F_check_coins.kp, b_check_coins⟩
    have hW : mg "WAYS" = some (.ref (He.ga K "WAYS")) := (glo 49 "WAYS" rfl)
    have N_check_way : Fn PP w K mg base (L2.CX PP w) 3 "check_way" ["way"] (spWay K cs.B) _ _ := ⟨ok_check_way F_check_way B (hW) (fun H => He.tupB_ok x_WAYS H) E_BadHouse, m_check_way, F_check_way.kp, b_check_way⟩
    have N_is_life : Fn PP w K mg base (L2.CX PP w) 10 "is_life" ["house", "value"] (spIsLife K tb.m tb.s) _ _ := ⟨ok_is_life F_is_life N_check_house N_check_life (glo 46 "BadLife" rfl) (exm (1, 1) (by decide)), m_is_life, F_is_life.kp, b_is_life⟩
    let ch : Ch PP w K mg base cs tb := ⟨_, _, N_check_house, _, _, N_check_life, _, _, N_check_story, _, _, N_check_way, _, _, N_check_coins, _, _, N_check_drawer⟩
    have N_check_run : Fn PP w K mg base (L2.CX PP w) 10 "check_run" ["house", "way", "life", "coins"] (sp_check_run K cs tb) _ _ := ⟨ok_check_run F_check_run ch, m_check_run, F_check_run.kp, b_check_run⟩
    have N_check_waits : Fn PP w K mg base (L2.CX PP w) 10 "check_waits" ["house", "way", "story", "drawer"] (sp_check_waits K cs tb) _ _ := ⟨ok_check_waits F_check_waits ch, m_check_waits, F_check_waits.kp, b_check_waits⟩
    let ch2 : Ch2 PP w K mg base cs tb := ⟨ch, _, _, N_check_run, _, _, N_check_waits⟩
    have N_coin_count : Fn PP w K mg base (L2.CX PP w) 4 "coin_count" ["house"] (spCount K cs.B) _ _ := ⟨ok_count F_coin_count N_check_house B, m_coin_count, F_coin_count.kp, b_coin_count⟩
    have N_power : Fn PP w K mg base CX0 1 "power" ["base", "many"] (spPower) _ _ := ⟨ok_power (CX := CX0) F_power B, m_power, F_power.kp, b_power⟩
    have N_upper_moment : Fn PP w K mg base CX0 2 "upper_moment" ["moment", "drawer"] (spUpM K tb.u) _ _ := ⟨ok_upM (CX := CX0) F_upper_moment B CA_upper_moment, m_upper_moment, F_upper_moment.kp, b_upper_moment⟩
    have N_above : Fn PP w K mg base CX0 4 "above" ["life", "drawer"] (spAbove K tb.u tb.a) _ _ := ⟨ok_above (CX := CX0) F_above B CA_above N_upper_moment, m_above, F_above.kp, b_above⟩
    have N_waiting_counts : Fn PP w K mg base (L2.CX PP w) 11 "waiting_counts" ["house", "way", "story", "drawer"] (sp_waiting_counts K cs tb) _ _ := ⟨ok_waiting_counts F_waiting_counts ch2, m_waiting_counts, F_waiting_counts.kp, b_waiting_counts⟩
    have N_looks : Fn PP w K mg base (L2.CX PP w) 11 "looks" ["house", "way", "life", "coins", "drawer"] (sp_looks K cs tb) _ _ := ⟨ok_looks F_looks ch2, m_looks, F_looks.kp, b_looks⟩
    have N_upper : Fn PP w K mg base (L2.CX PP w) 11 "upper" ["house", "life", "drawer"] (sp_upper K cs tb) _ _ := ⟨ok_upper F_upper ch2 N_above, m_upper, F_upper.kp, b_upper⟩
    have N_row_count : Fn PP w K mg base (L2.CX PP w) 11 "row_count" ["house", "life"] (sp_row_count K cs tb) _ _ := ⟨ok_row_count F_row_count ch2 N_coin_count N_moment_count N_power, m_row_count, F_row_count.kp, b_row_count⟩
    have N_alike_above : Fn PP w K mg base (L2.CX PP w) 11 "alike_above" ["house", "one", "other", "drawer"] (sp_alike_above K cs tb) _ _ := ⟨ok_alike_above F_alike_above ch2 N_above, m_alike_above, F_alike_above.kp, b_alike_above⟩
    have WF : ToldF K mg cs := ⟨(glo 45 "BadStory" rfl), (glo 46 "BadLife" rfl), (glo 47 "BadCoins" rfl), (glo 48 "BadDrawer" rfl), XF_BadStory, XF_BadLife, XF_BadCoins, no_BadStory, no_BadLife, no_BadCoins, fun i j h1 h2 => by rw [at_, at_]; exact WX i j h1 h2⟩
    let W : ToldD K mg cs := ⟨_, _, F__law_told, m__law_told, b__law_told, WF⟩
    have N__law_taken : Fn PP w K mg base CX0 1 "_law_taken" ["row", "many"] (spTaken K) _ _ := ⟨ok_taken (CX := CX0) F__law_taken B, m__law_taken, F__law_taken.kp, b__law_taken⟩
    have N__law_pick : Fn PP w K mg base CX0 2 "_law_pick" ["row", "things"] (spPick K) _ _ := ⟨ok_pick (CX := CX0) F__law_pick B N__law_taken, m__law_pick, F__law_pick.kp, b__law_pick⟩
    have N__law_choices : Fn PP w K mg base CX0 1 "_law_choices" ["many", "some"] (spChoices) _ _ := ⟨ok_choices (CX := CX0) F__law_choices B, m__law_choices, F__law_choices.kp, b__law_choices⟩
    have N__law_sets : Fn PP w K mg base CX0 1 "_law_sets" ["cells", "many"] (spSets) _ _ := ⟨ok_sets (CX := CX0) F__law_sets B, m__law_sets, F__law_sets.kp, b__law_sets⟩
    have N__law_house : Fn PP w K mg base CX0 2 "_law_house" ["row", "most"] (spHouse K) _ _ := ⟨ok_house (CX := CX0) F__law_house B N__law_taken, m__law_house, F__law_house.kp, b__law_house⟩
    have N__law_moment : Fn PP w K mg base CX0 2 "_law_moment" ["row", "house", "deepest", "most"] (spMom K) _ _ := ⟨ok_mom (CX := CX0) F__law_moment B N__law_taken, m__law_moment, F__law_moment.kp, b__law_moment⟩
    have N__law_life : Fn PP w K mg base CX0 3 "_law_life" ["row", "house", "moments"] (spLifeL K) _ _ := ⟨ok_lifeL (CX := CX0) F__law_life B N__law_taken N__law_moment, m__law_life, F__law_life.kp, b__law_life⟩
    have N__law_length : Fn PP w K mg base CX0 1 "_law_length" ["life"] (spLength) _ _ := ⟨ok_length (CX := CX0) F__law_length B, m__law_length, F__law_length.kp, b__law_length⟩
    have N__law_coins : Fn PP w K mg base CX0 2 "_law_coins" ["row", "house", "many"] (spCoinsL K) _ _ := ⟨ok_coins (CX := CX0) F__law_coins B N__law_taken N__law_choices, m__law_coins, F__law_coins.kp, b__law_coins⟩
    have N__law_upper : Fn PP w K mg base CX0 1 "_law_upper" ["life", "drawer"] (spUpL) _ _ := ⟨ok_upL (CX := CX0) F__law_upper B, m__law_upper, F__law_upper.kp, b__law_upper⟩
    have N__law_is_moment : Fn PP w K mg base CX0 1 "_law_is_moment" ["house", "value", "deepest"] (spIsMom K) _ _ := ⟨ok_isMom (CX := CX0) F__law_is_moment B, m__law_is_moment, F__law_is_moment.kp, b__law_is_moment⟩
    have N__law_wrong_story : Fn PP w K mg base CX0 2 "_law_wrong_story" ["house", "value", "deepest"] (spWrS K) _ _ := ⟨ok_wrS (CX := CX0) F__law_wrong_story B N__law_is_moment, m__law_wrong_story, F__law_wrong_story.kp, b__law_wrong_story⟩
    have N__law_wrong_life : Fn PP w K mg base CX0 3 "_law_wrong_life" ["house", "value"] (spWrL K) _ _ := ⟨ok_wrL (CX := CX0) F__law_wrong_life B N__law_wrong_story, m__law_wrong_life, F__law_wrong_life.kp, b__law_wrong_life⟩
    have N__law_alike : ∀ n, Fn PP w K mg base CX0 n "_law_alike" ["found", "due"] (spAlike K n) _ _ := fun n => ⟨ok_alike F__law_alike B m__law_alike b__law_alike n, m__law_alike, F__law_alike.kp, b__law_alike⟩
    exact ok_law F_law ⟨B, W, skB_ok x_na, _, _, N__law_taken, _, _, N__law_pick, _, _, N__law_house, _, _, N__law_life, _, _, N__law_coins, _, _, N__law_length, _, _, N__law_sets, _, _, N__law_upper, _, _, N__law_wrong_story, _, _, N__law_wrong_life, _, _, N__law_alike, _, _, N1_is_story, _, _, N_is_life, _, _, N_waiting_counts, _, _, N_looks, _, _, N_upper, _, _, N_row_count, _, _, N_alike_above⟩ hc_law TL_law
end
end K01

set_option maxHeartbeats 0
namespace K01
open PySem PySem.Spec PyProof.Rows L2 Hd Evl
abbrev RR : PySem.W.OpenRow := PySem.W.OpenLaw.row PySem.Challenge.rw_hushdrawers_k01_whole_lives
theorem run1 (w : World) : (headRun RR 20000 w).map (fun x => HandSHeadRun.looksF RR.prog x.1.heap x.2.abs) = some true := by
  kernel_rfl
theorem run2 (w : World) : (headRun RR 20000 w).map (fun x => HandSHeadRun.seenQ (PySem.W.view RR.prog [0, 76]) looseL (importedModules RR.prog.main.body) (fun s => PySem.W.xlAt (PySem.W.view RR.prog [0, 76]) [] s && PySem.W.recOk RR.toRowW.records s) x.2.abs) = some (PySem.W.openGood (PySem.W.view RR.prog [0, 76]) looseL) := by
  kernel_rfl
theorem run3 (w : World) : (headRun RR 20000 w).map (fun x => askL.ob x.2) = some (askL.hook.val w) := by
  kernel_rfl
theorem runL (w : World) : HandSHeadRun.RunEqI RR (PySem.W.view RR.prog [0, 76]) askL.hook askL.ob 20000 looseL w := three (run1 w) (run2 w) (run3 w)
end K01
open PySem PySem.W PySem.Calls PyProof.Rows
theorem PySem.Challenge.cw_hushdrawers_k01_whole_lives_holds : PySem.Challenge.rw_hushdrawers_k01_whole_lives.Holds := by
  w_on; o_law
  refine HandSHeadRun.head_imp (r := OpenLaw.row PySem.Challenge.rw_hushdrawers_k01_whole_lives) (q := view (OpenLaw.row PySem.Challenge.rw_hushdrawers_k01_whole_lives).prog [0, 76]) (H := K01.askL.hook) (ob := K01.askL.ob) (M := 20000) (loose := K01.looseL) (d := HandSHeadRun.topDef (OpenLaw.row PySem.Challenge.rw_hushdrawers_k01_whole_lives).prog 76) (kwd := []) K01.askL.ob_eq
    K01.runL (by kernel_rfl) (by kernel_rfl) (by rfl) (by kernel_rfl) (by decide +kernel) (by decide +kernel) ⟨rfl, rfl, rfl, rfl, rfl, by decide +kernel⟩ ?hw ?hc
  case hw => w_witness2
  case hc =>
    refine LamX.walk_ofTsE (l := PySem.Challenge.rw_hushdrawers_k01_whole_lives) (n := 63) (k := 15) (x := "script") (CX := fun w => L2.CX K01.PP w) rfl (by decide) (by kernel_rfl) ⟨rfl, by decide, by decide⟩ ?F (fun w H s e s' z => by obtain ⟨_, _, _, _, _, _, _, _, _, _, _, _, z⟩ := z; exact z)
    intro w mg fa h Y G hmg0
    obtain ⟨K, KX, c⟩ := Y
    have hmg : mg ("law" : PySem.Str) = some (.ref fa) := by
      have e : (HandSHeadRun.topDef (OpenLaw.row PySem.Challenge.rw_hushdrawers_k01_whole_lives).prog 76).name = ("law" : PySem.Str) := by kernel_rfl
      rw [← e]
      exact hmg0
    exact ⟨K, KX, K01.facts KX G hmg c⟩
