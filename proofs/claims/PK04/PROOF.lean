import PyProof.Rows.All
import Wide.All
import OpenK.AllK
import Wide.FinOn
import HandS.ForExc
import HandS.TryMany
import HandS.ForMost
import HandS.Evl
import HandS.Wide
import HandS.IsInst
import HandS.TupAny
import HandS.TupMul
import HandS.ExcInit
import HandS.ExcField
import HandS.Small
import HandS.Lambda
import HandS.Gcd
import HandS.Defaults
import HandS.HeadWalk
import HandS.HeadHook4
import HandS.Head2
import HandS.Style
import KE.KMathGC
import KE.GoesEnum
import HandS.Comp
import HandS.GenList
import HandS.AnyAll
import PyProof.TupleOfGen
import HandS.Head3
import HandS.HeadEnd
import HandS.Deep
import HandS.SetFor
import HandS.DictTup
import HandS.DictComp
import HandS.DictSub
import HandS.Walk
import HandS.Conv
import HandS.TupSets
import HandS.WordsDict
import HandS.Strs
import PySem.Challenge.RW_hushdrawers_k04_whole_hushed
set_option Elab.async false
set_option linter.all false
set_option maxRecDepth 100000
set_option maxHeartbeats 4000000
/-! several except clauses, some with a name -/
namespace Hd
open PySem PySem.Spec PyProof.Rows L2
abbrev ClTS := Addr → Value → Option Addr → TS
/-- behind a clause with a name its slot is bare again -/
def bareAt (i : Nat) (D : Ends) : Ends :=
  ⟨fun z G => D.nx (z.set i none) G, D.rt, fun z G => D.bk (z.set i none) G, fun z G => D.ct (z.set i none) G⟩
def named (i : Nat) (t : ClTS) : ClTS := fun a c d D z G => t a c d (bareAt i D) (z.set i (some (.ref a))) G
inductive Clauses (X : Cx) : List ExceptHandler → List (Value × ClTS) → Prop
  | nil : Clauses X [] []
  | bare {x : Str} {c : Value} {t : ClTS} {b : Stmt} {bs : List Stmt} {q q' : Pos} {hs : List ExceptHandler} {l : List (Value × ClTS)} (hc : Names X x c)
      (hb : ∀ (a : Addr) (oe : Obj) (k : Value) (d : Option Addr) (pn : List (Addr × Obj)), Zc k d oe → (∃ vs, oe.data = .fields vs) → PSs (X.suite a ((a, oe) :: pn)) (b :: bs) (t a k d)) (r : Clauses X hs l) :
      Clauses X (.ExceptHandler (some (.Name x q)) none (b :: bs) q' :: hs) ((c, t) :: l)
  | as_ {x n : Str} {i : Nat} {c : Value} {t : ClTS} {b : Stmt} {bs : List Stmt} {q q' : Pos} {hs : List ExceptHandler} {l : List (Value × ClTS)} (hN : X.N.Nodup) (hi : X.N[i]? = some n) (hn : X.env.kindOf n = some .local) (hc : Names X x c)
      (hb : ∀ (a : Addr) (oe : Obj) (k : Value) (d : Option Addr) (pn : List (Addr × Obj)), Zc k d oe → (∃ vs, oe.data = .fields vs) → PSs (X.suite a ((a, oe) :: pn)) (b :: bs) (t a k d)) (r : Clauses X hs l) :
      Clauses X (.ExceptHandler (some (.Name x q)) (some n) (b :: bs) q' :: hs) ((c, named i t) :: l)
/-- the exception at a has landed in this frame at heap g; J is the state without it -/
structure Landed (X : Cx) (pins : List (Addr × Obj)) (z : L2.St) (G : Hp) (a : Addr) (B : Heap) (cls : Value) (d : Option Addr) (sI s' : Shared) (g : Heap) : Prop where
  own : X.stack = X.env :: X.outer
  frm : X.env.frame = some X.env.locals
  st : Inv X pins z G sI
  ground : ∀ b o, sI.heap.get? b = some o → b ∉ frs X.stack → B.get? b = some o
  ups : sI.heap.UpToSlots g
  out : G a = none
  os : s'.os = sI.os
  gens : AllBare s'.gens
  fly : HandSPX.FlyingZ B (X.env :: X.outer) a (Zc cls d) g
section
variable {X : Cx} {pins : List (Addr × Obj)} {z : L2.St} {G : Hp} {a : Addr} {B g : Heap} {cls : Value} {d : Option Addr} {sI s' : Shared} {D : Ends} {Wout : WX}
theorem Landed.inv (L : Landed X pins z G a B cls d sI s' g) : Inv X pins z G { s' with heap := g } :=
  L.st.landed (s' := { s' with heap := g }) L.ground L.fly.1 L.ups L.os L.gens
theorem Landed.far (L : Landed X pins z G a B cls d sI s' g) : a ≠ X.env.locals ∧ a ∉ X.fs := by
  obtain ⟨oe, vs, e1, _, e3⟩ := L.fly.there
  have no : a ∉ frs (X.env :: X.outer) := fun m => by
    obtain ⟨_, ob, e4, nf⟩ := L.fly.2.2.1.mem m
    have e5 := e1.symm.trans e4
    cases e5
    exact nf vs e3
  constructor
  · intro e
    refine no (List.mem_filterMap.mpr ⟨X.env, List.mem_cons_self, ?_⟩)
    rw [L.frm, e]
  · intro m
    obtain ⟨en, m1, m2⟩ := List.mem_filterMap.mp m
    exact no (List.mem_filterMap.mpr ⟨en, List.mem_cons_of_mem X.env m1, m2⟩)
/-- the suite of a clause is entered with the flight set to none once more -/
theorem Landed.suite (L : Landed X pins z G a B cls d sI s' g) {A : Around} {Q : Unit → Shared → Prop} {E : Value → Shared → Prop}
    (k : ∀ g' oe, Landed X pins z G a B cls d sI s' g' → g'.get? a = some oe → Zc cls d oe → (∃ vs, oe.data = .fields vs) → Inv (X.suite a ((a, oe) :: (X.pn ++ pins))) [] z G { s' with heap := g' } → Q () { s' with heap := g' }) :
    wpAny (model X.prog X.w) A (setFlight (.ref a) none) Q E { s' with heap := g } :=
  HandSPX.lands_againZ L.fly fun g' f u => by
    have L' : Landed X pins z G a B cls d sI s' g' := { L with ups := L.ups.trans u, fly := f }
    obtain ⟨oe, vs, e1, e2, e3⟩ := f.there
    exact k g' oe L' e1 e2 ⟨vs, e3⟩ (L'.inv.suite e1 e3 L.out L.far.1 L.far.2)
/-- no clause took it: it flies on -/
theorem Landed.on (L : Landed X pins z G a B cls d sI s' g) (tk : Takes X Wout) (w : Wout cls d z G) :
    wpAny (model X.prog X.w) X.A (handleBy (.ref a) X.env []) (SP X pins D) X.xe { s' with heap := g } := by
  refine wpAny_handleBy_nil ?_
  obtain ⟨oe, vs, T, oT, ts, e1, _, e3, e4, _⟩ := L.fly.2.2.2
  unfold PySem.passOn
  refine wpAny_bind (wpAny_field e1 e3 e4 ?_)
  rw [if_neg (show ¬ ((Value.ref T == Value.none) = true) by simp)]
  have go : wpAny (model X.prog X.w) X.A (setFlight (.ref a) X.env.frame) (fun _ t => wpAny (model X.prog X.w) X.A (throw (.ref a) : Sem Flow) (SP X pins D) X.xe t) X.xe { s' with heap := g } := by
    rw [L.frm]
    refine HandSPX.setFlight_upZ L.fly fun g' hh u => wpAny_throw (tk _ _ ⟨a, B, sI, pins, z, G, cls, d, rfl, L.st, L.ground, L.ups.trans u, ?_, L.out, L.os, L.gens, w⟩)
    rw [L.own]
    exact Or.inr (Or.inr hh)
  first | exact wpAny_bind (wpAny_pure (wpAny_bind go)) | exact wpAny_bind go
theorem SP.unsuite {q : Addr × Obj} {f : Flow} {s : Shared} (ok : X.Ok) (h : SP (X.suite a (q :: (X.pn ++ pins))) [] D f s) : SP X pins D f s := by
  cases f with
  | ret u => exact let ⟨v, z, G, I, r, w⟩ := h; ⟨v, z, G, I.unsuite ok, r, w⟩
  | _ => exact let ⟨z, G, I, w⟩ := h; ⟨z, G, I.unsuite ok, w⟩
/-- the clauses, one behind another -/
theorem clauses_run (L : Landed X pins z G a B cls d sI s' g) (tk : Takes X Wout) : ∀ {hs : List ExceptHandler} {l : List (Value × ClTS)}, Clauses X hs l → wMany X.K Wout D l cls d z G →
    wpAny (model X.prog X.w) X.A (handleBy (.ref a) X.env hs) (SP X pins D) X.xe { s' with heap := g } := by
  intro hs l hk
  have I3 := L.inv
  obtain ⟨oe3, vs3, e1, e2, e3⟩ := L.fly.there
  have S3 := I3.suite e1 e3 L.out L.far.1 L.far.2
  have ty : PySem.W.Looks (model X.prog X.w) g (typeOf (.ref a)) cls := fun A Q E s k q => wpAny_typeOf_ref (k a oe3 e1) (by rw [e2.1]; exact q)
  have look : ∀ {x : Str} {c : Value} {q : Pos} {Q : Value → Shared → Prop} {E : Value → Shared → Prop}, Names X x c → Q c { s' with heap := g } → wpAny (model X.prog X.w) (X.A.mark (some (.ref a))) (eval (.Name x q) X.env) Q E { s' with heap := g } := by
    intro x c q Q E hc hq
    rcases hc with ⟨n1, n2, n3 | ⟨n3, n4, n5⟩⟩
    · exact ld_glob (X := X.suite a ((a, oe3) :: (X.pn ++ pins))) S3 n1 n3 hq n2
    · exact ld_blt (X := X.suite a ((a, oe3) :: (X.pn ++ pins))) S3 n1 n3 n4 hq n5 n2
  induction hk with
  | nil => exact fun w => L.on tk w
  | bare hc hb r ih =>
    rintro ⟨y, hy, w1, w2⟩
    refine wpAny_handleBy_cons (codeAny_handlers_test (look hc ((PySem.W.exm_one (M := model X.prog X.w) I3.kIn ty hy).here ?_))) (by intro n; cases n)
    cases y with
    | false => exact ih (w2 rfl)
    | true =>
      refine codeAny_handlers_suite (L.suite fun g' oe L' f1 f2 f3 S => ?_)
      exact wpAny_mono ((hb a oe cls d _ f2 f3).run [] _ z G D S (w1 rfl a L.out)) (fun f t h => SP.unsuite I3.ok h) fun _ _ n => n.elim
  | @as_ x n i c t b bs q q' hs2 l2 hN hi hn hc hb r ih =>
    rintro ⟨y, hy, w1, w2⟩
    refine wpAny_handleBy_cons (codeAny_handlers_test (look hc ((PySem.W.exm_one (M := model X.prog X.w) I3.kIn ty hy).here ?_))) (by intro n; cases n)
    cases y with
    | false => exact ih (w2 rfl)
    | true =>
      refine codeAny_handlers_suite_as (L.suite fun g' oe L' f1 f2 f3 S => ?_)
      refine store_ok (X := X.suite a ((a, oe) :: (X.pn ++ pins))) (v := .ref a) S hN hi (.inl hn) rfl (fun s5 S5 => ?_) (.inr hn)
      refine wpAny_mono ((hb a oe cls d _ f2 f3).run [] s5 _ G (bareAt i D) S5 (w1 rfl a L.out)) (fun f t h => ?_) fun _ _ n => n.elim
      have h' := SP.unsuite I3.ok h
      cases f with
      | ret u =>
        obtain ⟨v, z6, G6, J6, r6, q6⟩ := h'
        exact gone_ok J6 hN hi hn fun s7 J7 => ⟨v, _, _, J7, r6, q6⟩
      | next =>
        obtain ⟨z6, G6, J6, q6⟩ := h'
        exact gone_ok J6 hN hi hn fun s7 J7 => ⟨_, _, J7, q6⟩
      | brk =>
        obtain ⟨z6, G6, J6, q6⟩ := h'
        exact gone_ok J6 hN hi hn fun s7 J7 => ⟨_, _, J7, q6⟩
      | cont =>
        obtain ⟨z6, G6, J6, q6⟩ := h'
        exact gone_ok J6 hN hi hn fun s7 J7 => ⟨_, _, J7, q6⟩
end
/-- try: body / except .. (as ..): .. / except ..: .. -/
theorem ps_tries {X : Cx} {body : List Stmt} {c0 : ExceptHandler} {cs : List ExceptHandler} {l : List (Value × ClTS)} {pos : Pos} {tb : WX → TS} {Wout : WX} (own : X.stack = X.env :: X.outer) (frm : X.env.frame = some X.env.locals) (tk : Takes X Wout)
    (hb : ∀ (W : WX) (pn : List (Addr × Obj)) (xe : Value → Shared → Prop), Takes (X.tr pn xe) W → PassesOwn (model X.prog X.w) X.A X.env xe → PSs (X.tr pn xe) body (tb W))
    (hh : Clauses X (c0 :: cs) l) : PS X (.Try body (c0 :: cs) [] [] pos) (fun D z G => tb (wMany X.K Wout D l) D z G) := by
  constructor
  intro pins s z G D I h
  have fr : X.A.frames = some (X.env :: X.outer) := by rw [I.ok.frames, own]
  refine wpAny_Try_except (wpAny_mono ((hb (wMany X.K Wout D l) (X.pn ++ pins) (fun e s1 => wpAny (model X.prog X.w) X.A (noteFrame e X.env) (fun _ s2 => wpAny (model X.prog X.w) X.A (setFlight e none) (fun _ s3 =>
    wpAny (model X.prog X.w) X.A (handleBy e X.env (c0 :: cs)) (SP X pins D) X.xe s3) X.xe s2) X.xe s1) (fun u s' x => ?_) PassesOwn.looking).run [] s z G D (I.toTry _) h) (fun f s1 q => ?_) fun _ _ q => q)
  · obtain ⟨a, B, sI, p', z', G', cls, d, rfl, J, nb, up, sky, na, os, ag, w⟩ := x
    refine Sky.land Zc.steady fr frm (by rw [← own]; exact sky) fun g fl u => ?_
    exact clauses_run (D := D) ⟨own, frm, J.ofTry I.ok, nb, up.trans u, na, os, ag, fl⟩ tk hh w
  · cases f with
    | ret u => exact let ⟨v, z1, G1, J, r, w⟩ := q; ⟨v, z1, G1, J.ofTry I.ok, r, w⟩
    | next => exact let ⟨z1, G1, J, w⟩ := q; wpAny_execs_nil ⟨z1, G1, J.ofTry I.ok, w⟩
    | brk => exact let ⟨z1, G1, J, w⟩ := q; ⟨z1, G1, J.ofTry I.ok, w⟩
    | cont => exact let ⟨z1, G1, J, w⟩ := q; ⟨z1, G1, J.ofTry I.ok, w⟩
end Hd

set_option maxHeartbeats 4000000
namespace Hd
open PySem PySem.Spec PyProof.Rows L2
/-! ### comb -/
def rComb : List V → Hp → VK → Prop := fun xs H Q => ∃ a b : Int, xs = [.int a, .int b] ∧ 0 ≤ a ∧ 0 ≤ b ∧ a ≤ 18000 ∧ Q (.int (PySem.W.mcComb a b)) H
theorem call_comb {X : Cx} : CallR X (.builtin "math.comb") rComb := by
  rintro pins s σ H vs us Q I r ⟨a, b, rfl, h1, h2, h3, q⟩
  obtain ⟨t, u, rfl⟩ := Vals.int2 r
  exact PySem.W.mc_comb h1 h2 (by omega) (.inr h3) fun _ => ⟨.int _, H, I.tok _, ⟨_, rfl⟩, q⟩
/-! ### X() -/
theorem pmk_own0 {X : Cx} {C : Addr} {bmB : List Value} {B newId initId : String} {x : Str} {p pos : Pos} (F : ExcBaseFacts B newId initId bmB) (q : PySem.W.excIn X.K C bmB newId = true) (gC : X.mg x = some (.ref C))
    (kC : PySem.W.keepIn X.K (.ref C) = true) (r : Raises X (.ref C)) (hg : Gl X x) (hdb : (x == ("__debug__" : Str)) = false := by decide) : PMk X (.Call (.Name x p) [] [] pos) (fun _ H Q => Q (.ref C) none H) := by
  intro pins s σ H Q I h
  refine wpAny_Call_Name_kw (ld_glob I hg gC ?_ hdb)
  refine PySem.W.callWith_K0 I.kIn kC ?_
  show wpAny _ _ (call (.ref C) []) _ _ _
  obtain ⟨bm, N, nm, qn, bs, hdct, sn, sub, ab, col, dd, k0, k1, k2, k3, k5, mN, hC, hN, hni, T⟩ := exc_obj I.kIn q
  refine wpAny_call_exc_subT F T hC hN hni (fun h' e hm => ?_) (Nat.zero_le _)
  exact mk_of I hm r h (I.hok.gone hm.new)
/-! ### isinstance by the kinds' names -/
def rIsS (K : PySem.W.Frag) : List V → Hp → VK → Prop := fun xs H Q => ∃ (x : V) (s T : String) (b : Bool), xs = [x, .ty T] ∧ TyX K H x (.type s) ∧ kitB s T = some b ∧ Q (.bl b) H
theorem call_isS {X : Cx} : CallR X (.builtin "isinstance") (rIsS X.K) := by
  rintro pins s σ H vs us Q I r ⟨x, a, T, b, rfl, h1, h2, q⟩
  exact call_isi pins s σ H _ us Q I r ⟨x, .ty T, .type a, .type T, b, rfl, .ty T, h1, kit_ty h2, q⟩
/-! ### a tuple times an int from 1 on -/
theorem tuple_once (l : Addr) (items : Array Value) (n : Nat) (dd : Option Addr) (sl : Array (Option Value)) (u : Tok) :
    Meets (Builtin.«tuple.__mul__» ⟨[.ref l, .int 1 u], []⟩) (fun _ R s => s.heap.get? l = some { cls := .type "tuple", dict := dd, data := .seq items n, slots := sl } ∧ R (.ok (.ret (Value.ref l))) s) :=
  .of_wp fun prog w A R s h => by
    obtain ⟨hp, g, d, tk, os⟩ := s
    obtain ⟨hl, h⟩ := h
    have f1 := AutoSeq1.idx_int
    have c1 : (items.isEmpty || (1 : Int) == 1) = true := by rw [Bool.or_eq_true]; exact .inr rfl
    wp_walk using wpAny_loadPart' hl
    repeat (first
      | (refine wpAny_ite_true (decide_eq_true c1) ?_; wp_walk using wpAny_loadPart' hl)
      | (rw [if_pos c1]; wp_walk using wpAny_loadPart' hl))
    exact ⟨_, rfl, h⟩
section
variable {X : Cx}
/-- t * k, k from 1 on -/
structure TimesP (K : PySem.W.Frag) (x y : V) (H : Hp) (Q : VK) : Prop where
  go : ∃ l k xs, x = .ref l ∧ y = .int k ∧ SqT K H l xs ∧ xs ≠ [] ∧ 1 ≤ k ∧ k ≤ 1000 ∧ xs.length ≤ 1000 ∧
  (k = 1 → Q (.ref l) H) ∧ (2 ≤ k → ∀ p, H p = none → Q (.ref p) (upd H p (.tup (List.replicate k.toNat xs).flatten)))
def rTimes (K : PySem.W.Frag) : R2 := fun x y H Q => TimesP K x y H Q
theorem op_times : OpR X (binaryOp .Mult) (rTimes X.K) := by
  rintro pins s σ H x y v u Q I rx ry ⟨l, k, xs, rfl, rfl, hT, ne, h1, h2, hz, q1, q2⟩
  by_cases hk : 2 ≤ k
  · exact op_repT pins s σ H _ _ v u Q I rx ry ⟨l, k, xs, rfl, rfl, hT, ne, hk, h2, hz, q2 hk⟩
  · have e : k = 1 := by omega
    subst e
    cases rx
    obtain ⟨t, rfl⟩ := ry
    obtain ⟨its, r, ⟨⟨cls, dd, data, sl⟩, ho, hc, n, hd⟩, _⟩ := I.tuple hT
    simp only at hc hd
    subst hc hd
    exact wpAny_binaryOp_repeat_ref (T := "tuple") (U := "int") (by decide) ⟨_, ho, rfl⟩ (fun s' => typeIs_int s' 1 t) noFill_tuple_mul F.fills_int_mul F.slot_int_rmul repeat_tuple F.slot_int_index.lookup
      (call_meets F.slot_int_rmul (typeIs_int s 1 t) F.entry_int_rmul (F.args_int_rmul_2 _ _) (int_rmul_tuple 1 t l its.toArray n dd sl)
        ⟨ho, rfl, ⟨_, ho, rfl⟩, call_meets F.slot_tuple_mul ⟨_, ho, rfl⟩ F.entry_tuple_mul (F.args_tuple_mul_2 _ _) (tuple_once l its.toArray n dd sl t) ⟨ho, ⟨.ref l, H, I, rfl, q1 rfl⟩⟩⟩)
/-! ### t[::-1] -/
theorem back_adjust (n : Nat) : Builtin.Slice.sliceAdjust none none (-1) (n : Int) = ((n : Int) - 1, -1) := rfl
theorem back_places (n : Nat) : Builtin.Slice.slicePlaces ((n : Int) - 1) (-1) (-1) = n := by
  unfold Builtin.Slice.slicePlaces
  rw [if_neg (by decide)]
  by_cases h : 0 < n
  · rw [if_pos (by omega), show (-(-1 : Int)) = 1 by decide, Int.ediv_one]
    omega
  · rw [if_neg (by omega)]
    omega
theorem fm_congr {α β : Type} {f g : α → Option β} : ∀ {l : List α}, (∀ a ∈ l, f a = g a) → l.filterMap f = l.filterMap g
  | [], _ => rfl
  | a :: r, h => by
    rw [List.filterMap_cons, List.filterMap_cons, h a List.mem_cons_self, fm_congr fun b hb => h b (List.mem_cons_of_mem a hb)]
theorem back_pick (xs : Array Value) : ((List.range xs.size).filterMap fun (k : Nat) => xs[(((xs.size : Int) - 1) + (k : Int) * (-1)).toNat]?).toArray = xs.toList.reverse.toArray := by
  have e : ∀ k ∈ List.range xs.size, xs[(((xs.size : Int) - 1) + (k : Int) * (-1)).toNat]? = xs[xs.size - 1 - k]? := fun k hk => by
    have := List.mem_range.mp hk
    congr 1
    omega
  rw [fm_congr e]
  have e2 : (List.range xs.size).filterMap (fun k => xs[xs.size - 1 - k]?) = ((List.range xs.size).map fun k => xs.size - 1 - k).filterMap (xs[·]?) := by rw [List.filterMap_map] <;> rfl
  rw [e2, PySem.W.krv_range, List.filterMap_reverse, PySem.W.krv_all]
section
variable {prog : Program} {w : World} {A : Around} {E : Value → Shared → Prop} {s : Shared}
theorem getItem_back {t sl : Addr} {items : Array Value} {vk : Value} {Q : Value → Shared → Prop} (ht : IsTup s.heap t items) (hs : s.heap.IsSliceOf sl .none .none vk) (pk : IsPart vk (some (-1)))
    (hsz : items.size ≤ sizeLine) (h : Q (.ref s.heap.objs.size) { s with heap := s.heap.push { cls := .type "tuple", data := .seq items.toList.reverse.toArray } }) : wpAny (model prog w) A (getItem (.ref t) (.ref sl)) Q E s := by
  obtain ⟨os, e1, e2, e3⟩ := id hs
  have ty : s.TypeIs (.ref sl) "slice" := ⟨os, e1, e2⟩
  have fits : sizeOk (.seq items.toList.reverse.toArray) := by
    show items.toList.reverse.toArray.size ≤ sizeLine
    simpa using hsz
  unfold getItem
  try with_reducible refine wpAny_holding ?_
  first | refine wpAny_bind (wpAny_pure ?_) | skip
  refine wpAny_bind (wpAny_sequenceKey ht.typeIs (by decide) ?_)
  refine wpAny_bind (wpAny_callSpecial?_slot (name := Str.ofString "__getitem__") ht.typeIs PyProof.Rows.slot_tuple_getitem (wpAny_call_entry PyProof.Rows.slot_tuple_getitem ht.typeIs entry_tuple_getitem ?_ (args_tuple_getitem _ _)))
  show wpAny _ _ (Builtin.Tuple.tupleItemsOf (.ref t) >>= _) _ _ s
  refine wpAny_bind (tupleItemsOf_ ht (wpAny_bind (wpAny_typeOf ty ?_)))
  rw [if_pos (by decide)]
  refine wpAny_bind ?_
  unfold Builtin.Slice.sliceApplied Builtin.Slice.sliceFields
  refine wpAny_bind (wpAny_bind (wpAny_field e1 e3 (x := .none) rfl (wpAny_bind (wpAny_field e1 e3 (x := .none) rfl (wpAny_bind (wpAny_field e1 e3 (x := vk) rfl (wpAny_pure ?_)))))))
  refine wpAny_bind (HT.slicePart_ pk ?_)
  show wpAny _ _ (if ((-1 : Int) == 0) = true then _ else _) _ _ s
  rw [if_neg (by decide)]
  refine wpAny_bind (slicePart_none (wpAny_bind (slicePart_none (wpAny_bind (wpAny_pure ?_)))))
  show wpAny _ _ (pure ((items.size : Int) - 1, (-1 : Int), Builtin.Slice.slicePlaces ((items.size : Int) - 1) (-1) (-1))) _ _ s
  rw [back_places]
  refine wpAny_pure ?_
  have no : ¬ (((items.size : Int) - 1 == 0 && (-1 : Int) == 1 && items.size == items.size) = true) := by
    intro q
    rw [Bool.and_eq_true, Bool.and_eq_true] at q
    exact absurd q.1.2 (by decide)
  show wpAny _ _ (if ((items.size : Int) - 1 == 0 && (-1 : Int) == 1 && items.size == items.size) = true then _ else _) _ _ s
  rw [if_neg no, back_pick]
  first
    | exact wpAny_bind (m := Builtin.Tuple.tupleExact _) (wpAny_newObj_type (wpAny_pure ⟨_, rfl, wpAny_pure h⟩) fits)
    | exact wpAny_bind (m := Builtin.Tuple.tupleExact _) (wpAny_newObj_type (wpAny_bind (wpAny_pure (wpAny_pure ⟨_, rfl, wpAny_pure h⟩))) fits)
    | exact wpAny_bind (wpAny_bind (m := Builtin.Tuple.tupleExact _) (wpAny_newObj_type (wpAny_pure (wpAny_pure ⟨_, rfl, wpAny_pure h⟩)) fits))
    | exact wpAny_bind (wpAny_bind (m := Builtin.Tuple.tupleExact _) (wpAny_newObj_type (wpAny_pure ⟨_, rfl, wpAny_pure h⟩) fits))
end
/-- t[::-1]: a new tuple -/
def tBack (K : PySem.W.Frag) (te : TE) : TE := fun σ H Q => te σ H fun x H1 => ∃ a xs, x = .ref a ∧ SqT K H1 a xs ∧ ∀ p, H1 p = none → Q (.ref p) (upd H1 p (.tup xs.reverse))
theorem pe_back {e : Expr} {te : TE} {k : Nat} {p1 p2 p3 pos : Pos} (he : PE X e te) : PE X (.Subscript e (.Slice none none (some (.UnaryOp .USub (.Constant (.int 1) k p1) p2)) p3) pos) (tBack X.K te) := by
  constructor
  intro pins s σ H Q I h
  have st : PO X (some (.UnaryOp .USub (.Constant (.int 1) k p1) p2)) (tPart (tUn (rU fun i => .int (-i)) (tC (.int 1)))) := po_some (pe_un un_neg pe_int)
  refine Subscript_ (thn (he.run pins s σ H _ I h) ?_)
  rintro v s1 ⟨x, H1, I1, r1, a, xs, rfl, hx, q⟩
  cases r1
  refine wpAny_Slice ?_
  rw [evalPart_none]
  refine wpAny_pure (wpAny_pure (thn (st.run pins s1 σ H1 (fun o G => o = some (-1) ∧ G = H1) I1 ⟨1, rfl, -1, rfl, rfl, rfl⟩) ?_))
  rintro vs s4 ⟨o, H4, I4, ps, rfl, rfl⟩
  have I5 : Inv X pins σ H4 { s4 with heap := s4.heap.push { cls := .type "slice", data := .fields #[.none, .none, vs] } } := I4.kept (t' := s4.toks) fun b ob z => Heap.get?_push_of_some _ z
  obtain ⟨its, r, ht, hz⟩ := I5.tuple hx
  have hlen := r.length
  show wpAny (model X.prog X.w) X.A (subscriptTail e (.Slice none none (some (.UnaryOp .USub (.Constant (.int 1) k p1) p2)) p3) (.ref a) (.ref s4.heap.objs.size)) (EP X pins σ Q) X.xe _
  refine tail_any (ops := [.ref a, .ref s4.heap.objs.size]) ht.typeIs PyProof.Rows.slot_tuple_getitem.lookup ?_ (by with_unfolding_all rfl)
  refine getItem_back ht (Heap.IsSliceOf.new _ .none .none vs) ps (by rw [List.size_toArray]; omega) ?_
  refine ⟨.ref _, _, I5.laid (t' := s4.toks) (o := .tup xs.reverse) (fun b ob z => Heap.get?_push_of_some _ z) (Nat.le_refl _) ?_, rfl, q _ (I5.hok.fresh (Nat.le_refl _))⟩
  exact ⟨by rw [List.length_reverse]; exact hz, _, r.reverse, IsTup.new _ _⟩
end
/-- a built-in class by its name -/
theorem pe_ty {X : Cx} (T : String) {x : Str} {pos : Pos} (hg : Gl X x) (hm : X.mg x = none) (hv : bootBuiltins x = some (.type T)) (hn : x ≠ "__name__" := by decide) (hd : (x == ("__debug__" : Str)) = false := by decide) : PE X (.Name x pos) (tC (.ty T)) := pe_bltn hg hm hv rfl hn hd
end Hd

set_option maxHeartbeats 4000000
/-! own error classes: with one field that their __init__ stores; without an __init__ -/
namespace Hd
open PySem PySem.Spec PyProof.Rows L2 Evl
/-- __init__ of such a class: self.fld = x -/
def spInit (C : Addr) (fld : Str) : Sp := fun vs H Q _ => ∃ a x, vs = [.ref a, x] ∧ H a = some (exo a C none) ∧ ∀ dx, H dx = none → dx ≠ a → Q .non (upd (upd H dx (exd dx [(fld, x)])) a (exo a C (some dx)))
structure ErrF (P : Program) (w : World) (K : PySem.W.Frag) (mg : Str → Option Value) (base : Heap) (x fld : Str) (C : Addr) : Prop where
  T : OexC K C
  F : XfC K C
  no : PySem.W.findIn K (.ref C) fld = some none
  m : mg x = some (.ref C)
  ini : ∃ (fI : Addr) (fd : FuncData), PySem.W.findIn K (.ref C) "__init__" = some (some (.ref fI)) ∧ PySem.W.typeIn K (.ref fI) = some (.type "function") ∧ FnOk P w K mg base CX0 1 fI fd ["self", fld] (spInit C fld) ∧ Binds K fd ["self", fld] []
structure ErrP (K : PySem.W.Frag) (mg : Str → Option Value) (x : Str) (C : Addr) : Prop where
  ex : PySem.W.excIn K C [.type "ValueError", .type "Exception", .type "BaseException", .type "object"] "ValueError.__new__" = true
  kC : PySem.W.keepIn K (.ref C) = true
  exC : PySem.W.subIn K (.ref C) (.type "BaseException") = some true
  tyC : PySem.W.typeIn K (.ref C) = some (.type "type")
  m : mg x = some (.ref C)
section
variable {X : Cx} {C : Addr} {x fld : Str} {W : WX}
def tRaiseF (C : Addr) (fld : Str) (W : WX) (ta : TA) : TS := fun _ σ H => ta σ H fun vs H1 => ∃ x, vs = [x] ∧ ∀ d H2, Ex H1 H2 → H1 d = none → H2 d = some (.xd [(fld, x)]) → W (.ref C) (some d) σ H2
/-- the same arguments, told by a stronger wish -/
def tByA (ta : TA) : TA := fun σ H Q => ∃ Q0, ta σ H Q0 ∧ ∀ vs H1, Q0 vs H1 → Q vs H1
theorem pa_by {es : List Expr} {ta : TA} (h : PA X es ta) : PA X es (tByA ta) := by
  refine ⟨fun pos pins s σ H Q I hq => ?_⟩
  obtain ⟨Q0, h0, h1⟩ := hq
  exact thn (h.run pos pins s σ H Q0 I h0) fun us s1 ⟨vs, H1, I1, r, q⟩ => ⟨vs, H1, I1, r, h1 vs H1 q⟩
/-- raise X(e) -/
theorem ps_raiseF {e : Expr} {ta : TA} {p pos pos2 : Pos} (Er : ErrF X.prog X.w X.K X.mg X.base x fld C) (hc : X.calm = true) (hr : Room 2 X.A) (tk : Takes X W) (hg : Gl X x) (ha : PA X [e] ta) (hdb : (x == ("__debug__" : Str)) = false := by decide)
    (he : starEach (e :: []) X.env = (false, eval e X.env) :: starEach [] X.env := by rfl) (hpl : (backTo pos (starEach [] X.env)).any (·.1) = false := by rfl) :
    PS X (.Raise (some (.Call (.Name x p) [e] [] pos)) none pos2) (tRaiseF C fld W ta) := by
  obtain ⟨fI, fd, h1, h2, h3, h4⟩ := Er.ini
  have mk : PMk X (.Call (.Name x p) [e] [] pos) _ := pmk_oex (dvs := []) (ds := []) Er.T h1 h2 h3 hr h4 .nil pass0 hg Er.m (pa_by ha) hdb he hpl
  have go := ps_raise (pos := pos2) hc tk mk
  refine ⟨fun pins s σ H D I h => go.run pins s σ H D I ⟨_, h, ?_⟩⟩
  rintro vs H1 ⟨y, rfl, q⟩
  refine ⟨by simp, fun a na => ⟨a, y, rfl, upd_same, fun dx nd ne => ⟨rfl, dx, [(fld, y)], upd_same, ?_, ?_, q dx _ (fun b o hb => ?_) ?_ upd_same⟩⟩⟩
  · rw [upd_ne ne, upd_same]
  · rw [upd_ne ne] at nd
    exact nd
  · have n1 : b ≠ a := ne_of_none hb na
    have n2 : b ≠ dx := fun z => by
      rw [z, ← upd_ne (H := H1) (o := exo a C none) ne, nd] at hb
      cases hb
    rw [upd_ne n2, del_ne n1, upd_ne n1, upd_ne n2, upd_ne n1]
    exact hb
  · rw [upd_ne ne] at nd
    exact nd
/-- raise X() -/
theorem ps_raiseP {p pos pos2 : Pos} (Er : ErrP X.K X.mg x C) (hc : X.calm = true) (tk : Takes X W) (hg : Gl X x) (hdb : (x == ("__debug__" : Str)) = false := by decide) :
    PS X (.Raise (some (.Call (.Name x p) [] [] pos)) none pos2) (fun _ σ H => W (.ref C) none σ H) :=
  ps_raise hc tk (pmk_own0 PySem.F.excBase_ValueError Er.ex Er.m Er.kC (raises_own Er.exC Er.tyC) hg hdb)
end
end Hd

set_option maxHeartbeats 4000000
/-! for i, x in enumerate(t), t a tuple -/
namespace Hd
open PySem PySem.Spec PyProof.Rows L2
theorem meets_enum1 {v : Value} {o : Obj} {Z : Heap → Prop} (B : Begins v o Z) :
    Meets (Builtin.«enumerate.__new__» ⟨[.type "enumerate", v], []⟩) (fun _ R s => Z s.heap ∧
      R (.ok (.ret (.ref (s.heap.push o).objs.size))) { s with heap := (s.heap.push o).push { cls := .type "enumerate", data := .fields #[.none, .bool false, .ref s.heap.objs.size, rawInt 0, .none, .none] } }) :=
  .of_wp fun prog w A R s h => by
    obtain ⟨hp, g, d, tk, os⟩ := s
    obtain ⟨z, q⟩ := h
    have hsub := sub_enumerate
    have it1 : ∀ {A' : Around} {E : Value → Shared → Prop} {Q : Value → Shared → Prop}, Q (.ref hp.objs.size) ⟨hp.push o, g, d, tk, os⟩ → wpAny (model prog w) A' (pyIter v) Q E ⟨hp, g, d, tk, os⟩ :=
      fun k => B.iter prog w _ _ ⟨hp, g, d, tk, os⟩ _ z k
    wp_walk using it1
    refine wpAny_stack_any fun st => wpAny_pure ?_
    split
    · rename_i c _ _ _ _ _
      cases (c == Value.type "enumerate") <;> (wp_walk using it1; exact ⟨_, rfl, q⟩)
    · wp_walk using it1
      exact ⟨_, rfl, q⟩
section
variable {prog : Program} {w : World} {A : Around} {E : Value → Shared → Prop} {s : Shared}
theorem enum_of {v : Value} {o : Obj} {Z : Heap → Prop} {Q : Value → Shared → Prop} (B : Begins v o Z) (z : Z s.heap)
    (k : ∀ g, IsEnum g (s.heap.objs.size + 1) s.heap.objs.size 0 .none → g.get? s.heap.objs.size = some o → (∀ b u, s.heap.get? b = some u → g.get? b = some u) → Q (.ref (s.heap.objs.size + 1)) { s with heap := g }) :
    wpAny (model prog w) A (call (.type "enumerate") [v]) Q E s := by
  refine callType_new F.called_enumerate (by decide) (F.typeCall_enumerate_1 _) (F.newCall_enumerate_1 _) (fun obj => F.args_object_init_2 obj _) F.entry_enumerate_new (meets_enum1 B) ⟨z, ?_⟩
  have sz : (s.heap.push o).objs.size = s.heap.objs.size + 1 := Heap.size_push ..
  have at1 := Heap.get?_push_size (s.heap.push o) (o := { cls := .type "enumerate", data := .fields #[.none, .bool false, .ref s.heap.objs.size, rawInt 0, .none, .none] }) rfl
  rw [sz] at at1
  show _ ∧ _
  rw [sz]
  exact ⟨⟨_, at1, rfl⟩, k _ at1 (Heap.get?_push_of_some _ (Heap.get?_push_size _ B.free)) fun b u e => Heap.get?_push_of_some _ (Heap.get?_push_of_some _ e)⟩
end
/-- the tuple at a as it stands, each item in a new pair -/
def Itu (K : PySem.W.Frag) (a : Addr) : It :=
  ⟨fun i H => ∃ (xs : List V) (x : V), SqT K H a xs ∧ xs[i]? = some x, fun i H v G => ∃ T x, v = .ref T ∧ H T = none ∧ G = upd H T (.tup [.int (i : Nat), x]) ∧ ∀ xs, SqT K H a xs → xs[i]? = some x, fun i H => ∃ xs : List V, SqT K H a xs ∧ xs.length ≤ i⟩
theorem turn_enumT {P : Program} {w : World} {K : PySem.W.Frag} {elts : List Expr} {kk : Nat} {tpos : Pos} (a e it : Addr) :
    Turn P w K (.Tuple elts kk tpos) (Itu K a) [e, it] e (fun i h => (∃ old, IsEnum h e it ((i : Nat) : Int) old) ∧ h.IsTupleIter it a i ∧ e ≠ it) where
  mem := by simp
  obj := fun i h st b hb => by
    obtain ⟨⟨old, he⟩, ⟨o, ho, hc, hd⟩, _⟩ := st
    rcases List.mem_cons.mp hb with z | z
    · rw [z]; exact ⟨_, he, fun v q => nomatch q⟩
    · have z' : b = it := by simpa using z
      exact ⟨o, by rw [z']; exact ho, fun v q => by rw [hd] at q; cases q⟩
  keep := fun i h h' st k => ⟨let ⟨old, he⟩ := st.1; ⟨old, k e (by simp) _ he⟩, st.2.1.at fun o q => k it (by simp) o q, st.2.2⟩
  item := by
    intro X hP hw hK hc i pins s σ H E I hf st hg
    subst hP hw hK
    obtain ⟨⟨old, he⟩, hit, hne⟩ := st
    obtain ⟨xs, x, hq, hx⟩ := hg
    obtain ⟨its, rv, p, hz⟩ := I.tuple hq
    obtain ⟨u, hu, ru⟩ := rv.get hx
    have hel : e < s.heap.objs.size := Heap.lt_size he
    have hil : it < s.heap.objs.size := by obtain ⟨_, q, _⟩ := hit; exact Heap.lt_size q
    have hlt : i < its.toArray.size := by simpa using (List.getElem?_eq_some_iff.mp hu).1
    have ta : s.heap.IsTuple a its.toArray := p
    have hai : a ≠ it := fun z => by
      obtain ⟨o1, e1, e2, _⟩ := ta
      obtain ⟨o2, e3, e4, _⟩ := hit
      rw [z, e3] at e1
      cases e1
      rw [e4] at e2
      exact absurd (Value.type.inj e2) (by decide)
    have hae : e ≠ a := fun z => by
      obtain ⟨o1, e1, e2, _⟩ := ta
      rw [← z] at e1
      have e3 : s.heap.get? e = some _ := he
      rw [e3] at e1
      cases e1
      exact absurd (Value.type.inj e2) (by decide)
    refine wpAny_pyNext_enum_itemD (Draws.tuple (A := X.A.in1) (I.ok.hd hc) it a hai its.toArray) he ⟨hit, ta⟩ hlt hne (by simp; exact ⟨hne, hae⟩) fun y h' tk hy ho st' hT hsz hk => ?_
    have ey : y = u := by
      have h1 : its.toArray[i]? = some y := hy
      rw [List.getElem?_toArray, hu] at h1
      exact (Option.some.inj h1).symm
    subst ey
    refine ⟨_, rfl, wpAny_letOwnedTupleGo_enum (s := { s with heap := h', toks := tk + 1 }) ho fun h2 he2 sb => ?_⟩
    have hT2 : h2.get? s.heap.objs.size = some { cls := .type "tuple", data := .seq #[.int i tk, y] } := (sb.2 _ (Nat.ne_of_gt hel)).trans hT
    have new : ObjOk X.prog X.w (upd H s.heap.objs.size (.tup [.int (i : Nat), x])) h2 s.heap.objs.size (.tup [.int (i : Nat), x]) :=
      ⟨by show 2 ≤ sizeLine; decide, [.int i tk, y], .cons ⟨_, rfl⟩ (.cons ru .nil), ⟨_, hT2, rfl, _, rfl⟩⟩
    have off : ∀ {b}, b ∉ [e, it] → b ≠ e ∧ b ≠ it := fun hb => ⟨fun z => hb (by simp [z]), fun z => hb (by simp [z])⟩
    have J : Inv X pins σ (upd H s.heap.objs.size (.tup [.int (i : Nat), x])) { s with heap := h2, toks := tk + 1 } :=
      I.turnedNew (ch := [e, it]) (fun b ob hb q => (sb.2 b (off hb).1).trans (hk b ob (off hb).1 (off hb).2 q)) hf (Nat.le_refl _) new
    refine ⟨.ref s.heap.objs.size, _, J, rfl, ⟨_, x, rfl, I.hok.fresh (Nat.le_refl _), rfl, fun ys hy => by rw [I.tuple_inj hy hq]; exact hx⟩, ⟨⟨y, ?_⟩, st'.1.at fun o q => (sb.2 it (Ne.symm hne)).trans q, hne⟩, fun b hb => ?_⟩
    · rw [show ((i + 1 : Nat) : Int) = (i : Int) + 1 by omega]
      exact he2
    · have hb' : b < s.heap.objs.size := by
        rcases List.mem_cons.mp hb with z | z
        · rw [z]; exact hel
        · rw [show b = it by simpa using z]; exact hil
      rw [upd_ne (Nat.ne_of_lt hb')]
      exact (hf b hb).1
  done := by
    intro X hP hw hK hc i pins s σ H E I hf st hg
    subst hP hw hK
    obtain ⟨⟨old, he⟩, hit, hne⟩ := st
    obtain ⟨xs, hq, hx⟩ := hg
    obtain ⟨its, rv, p, hz⟩ := I.tuple hq
    obtain ⟨f0, f1, f2, f3, f4, f5⟩ := hf it (by simp)
    have hT : s.TypeIs (.ref e) "enumerate" := ⟨_, he, rfl⟩
    have hl := rv.length
    have ta : s.heap.IsTuple a its.toArray := p
    unfold pyNext
    refine wpAny_bind (wpAny_attempt (wpAny_callSpecial?_slot (name := Str.ofString "__next__") hT F.slot_enumerate_next (wpAny_call_entry F.slot_enumerate_next hT F.entry_enumerate_next ?_ (F.args_enumerate_next_1 _))))
    show wpAny _ _ (field (.ref e) 2 >>= _) _ _ _
    refine wpAny_bind (wpAny_field he rfl (x := .ref it) rfl (wpAny_bind (wpAny_nextOf_tuple_end (I.ok.hd hc) hit ta (by simp; omega) fun h' x eb hx' => ?_)))
    obtain ⟨o, ho, hc'⟩ := hx'
    refine wpAny_bind (wpAny_isInstance (T := "StopIteration") (b := true) ⟨o, ho, hc'⟩ isSubtype_stop ?_)
    exact wpAny_pure ⟨rfl, I.turned (t' := s.toks) (fun b o hb q => eb b o hb q) f0 f1 f3 f4 f5⟩
  self := fun A i s Q E st h => let ⟨⟨_, he⟩, _⟩ := st; wpAny_pyIter_enum he h
def iEnumT (K : PySem.W.Frag) (ta : TA) : TI := fun σ H R => ta σ H fun vs H1 => ∃ a xs, vs = [.ref a] ∧ SqT K H1 a xs ∧ R (Itu K a) H1
theorem pi_enumT {X : Cx} {e : Expr} {ta : TA} {p pos tpos : Pos} {elts : List Expr} {kk : Nat} (hg : Gl X "enumerate") (hm : X.mg "enumerate" = none) (ha : PA X [e] ta) (hs : starEach [e] X.env = [(false, eval e X.env)] := by rfl) :
    PI X (.Tuple elts kk tpos) (.Call (.Name "enumerate" p) [e] [] pos) (iEnumT X.K ta) := by
  constructor
  intro pins s σ H R I h
  refine Call_ (ld_blt I hg hm boot_enumerate (PyProof.Rows.callWith_type1 (thn (ha.run pos pins s σ H _ I h) ?_) hs rfl))
  rintro us s1 ⟨vs, H1, I1, r1, a, xs, rfl, hq, q⟩
  cases r1 with
  | cons r rr =>
    cases rr
    cases r
    obtain ⟨its, rv, p', hz⟩ := I1.tuple hq
    refine enum_of (begins_tuple a its.toArray) p' fun g he hit hk => wpAny_pyIter_enum he ?_
    have J : Inv X pins σ H1 { s1 with heap := g } := I1.kept (t' := s1.toks) hk
    refine ⟨s1.heap.objs.size + 1, [s1.heap.objs.size + 1, s1.heap.objs.size], _, _, H1, rfl, J, turn_enumT a (s1.heap.objs.size + 1) s1.heap.objs.size, ⟨⟨.none, he⟩, ⟨_, hit, rfl, rfl⟩, Nat.succ_ne_self _⟩, fun b hb => ?_, q⟩
    have hle : s1.heap.objs.size ≤ b := by
      rcases List.mem_cons.mp hb with z | z
      · rw [z]
        exact Nat.le_add_right _ _
      · have z' : b = s1.heap.objs.size := by simpa using z
        rw [z']
        exact Nat.le_refl _
    exact I1.fpOk hle (I1.hok.fresh hle)
theorem for_enumT {K : PySem.W.Frag} {a : Addr} {xs : List V} {g : TG} {tb : TS} {D : Ends} {σ : L2.St} {H : Hp} (Pv : Nat → L2.St → Hp → Prop) (h0 : Pv 0 σ H) (hl : ∀ i σ H, i ≤ xs.length → Pv i σ H → SqT K H a xs)
    (hs : ∀ i x σ H T, xs[i]? = some x → Pv i σ H → H T = none → g (.ref T) σ (upd H T (.tup [.int (i : Nat), x])) fun σ2 H2 => tb { D with nx := Pv (i + 1), ct := Pv (i + 1), bk := D.nx } σ2 H2) (hd : ∀ σ H, Pv xs.length σ H → D.nx σ H) :
    ∃ W : Nat → Nat → L2.St → Hp → Prop, (∃ m, W 0 m σ H) ∧ ∀ i m σ H, W i m σ H →
      ((Itu K a).stop i H ∧ D.nx σ H) ∨ ((Itu K a).go i H ∧ ∃ N : L2.St → Hp → Prop, (∀ σ' H', N σ' H' → ∃ m', m' < m ∧ W (i + 1) m' σ' H') ∧ ∀ x H', (Itu K a).yld i H x H' → g x σ H' fun σ2 H2 => tb { D with nx := N, ct := N, bk := D.nx } σ2 H2) := by
  refine ⟨fun i m σ H => m + i = xs.length ∧ Pv i σ H, ⟨xs.length, rfl, h0⟩, fun i m σ G w => ?_⟩
  obtain ⟨em, p⟩ := w
  have q := hl i σ G (by omega) p
  by_cases lt : i < xs.length
  · refine .inr ⟨⟨xs, xs[i], q, List.getElem?_eq_getElem lt⟩, Pv (i + 1), fun σ' G' p' => ⟨m - 1, by omega, by omega, p'⟩, ?_⟩
    rintro _ _ ⟨T, y, rfl, nT, rfl, at_⟩
    exact hs i y σ G T (at_ xs q) p nT
  · have e : i = xs.length := by omega
    subst e
    exact .inl ⟨⟨xs, q, Nat.le_refl _⟩, hd σ G p⟩
/-- a def as the callers use it -/
structure Fn (P : Program) (w : World) (K : PySem.W.Frag) (mg : Str → Option Value) (base : Heap) (CX : CXT) (k : Nat) (x : Str) (ps : List Str) (sp : Sp) (f : Addr) (fd : FuncData) : Prop where
  G : FnOk P w K mg base CX k f fd ps sp
  m : mg x = some (.ref f)
  k : PySem.W.keepIn K (.ref f) = true
  b : Binds K fd ps []
/-- what is let out by a def that is called, let out by this one too -/
theorem passX {X : Cx} {E : XK} (own : X.stack = X.env :: X.outer) (frm : X.env.frame = some X.env.locals) (hex : X.ex = []) {E₁ : Value → Shared → Prop}
    (hx : X.xe = fun e s' => wpAny (model X.prog X.w) X.A (leaving X.env e) (fun _ s'' => L2.CX X.prog X.w X.outer X.H_0 X.s_0 E e s'') E₁ s') : Passes (L2.CX X.prog X.w) X E :=
  passes_call (takes_of own frm hex hx) fun _ _ _ _ h => h
end Hd

set_option maxHeartbeats 4000000
/-! sets of cells, their numbers -/
namespace Hd
/-- how many sets of k there are of m -/
def nck : Nat → Nat → Nat
  | _, 0 => 1
  | 0, _ + 1 => 0
  | m + 1, k + 1 => nck m k + nck m (k + 1)
/-- the sets of k of the cells c, .., c + m - 1, ascending -/
def setsN : Nat → Nat → Nat → List (List Nat)
  | _, 0, _ => [[]]
  | 0, _ + 1, _ => []
  | m + 1, k + 1, c => (setsN m k (c + 1)).map (c :: ·) ++ setsN m (k + 1) (c + 1)
theorem setsN_len : ∀ m k c, (setsN m k c).length = nck m k
  | 0, 0, _ => rfl
  | _ + 1, 0, _ => rfl
  | 0, _ + 1, _ => rfl
  | m + 1, k + 1, c => by
    show ((setsN m k (c + 1)).map (c :: ·) ++ setsN m (k + 1) (c + 1)).length = nck m k + nck m (k + 1)
    rw [List.length_append, List.length_map, setsN_len m k, setsN_len m (k + 1)]
/-- the set that a number draws -/
def drawN : Nat → Nat → Nat → Nat → List Nat
  | _, 0, _, _ => []
  | 0, _ + 1, _, _ => []
  | m + 1, k + 1, a, c => if a < nck m k then c :: drawN m k a (c + 1) else drawN m (k + 1) (a - nck m k) (c + 1)
theorem drawN_at : ∀ m k a c, a < nck m k → (setsN m k c)[a]? = some (drawN m k a c)
  | 0, 0, a, c, h => by
    have e : a = 0 := by simp [nck] at h; omega
    rw [e] <;> rfl
  | m + 1, 0, a, c, h => by
    have e : a = 0 := by simp [nck] at h; omega
    rw [e] <;> rfl
  | 0, _ + 1, a, c, h => by simp [nck] at h
  | m + 1, k + 1, a, c, h => by
    have h' : a < nck m k + nck m (k + 1) := h
    show ((setsN m k (c + 1)).map (c :: ·) ++ setsN m (k + 1) (c + 1))[a]? = some (if a < nck m k then c :: drawN m k a (c + 1) else drawN m (k + 1) (a - nck m k) (c + 1))
    by_cases ha : a < nck m k
    · rw [if_pos ha, List.getElem?_append_left (by rw [List.length_map, setsN_len]; exact ha), List.getElem?_map, drawN_at m k a (c + 1) ha] <;> rfl
    · rw [if_neg ha, List.getElem?_append_right (by rw [List.length_map, setsN_len]; omega), List.length_map, setsN_len]
      exact drawN_at m (k + 1) (a - nck m k) (c + 1) (by omega)
theorem drawN_len : ∀ m k a c, a < nck m k → (drawN m k a c).length = k
  | m, 0, a, c, _ => by cases m <;> rfl
  | 0, _ + 1, a, c, h => by simp [nck] at h
  | m + 1, k + 1, a, c, h => by
    have h' : a < nck m k + nck m (k + 1) := h
    show (if a < nck m k then c :: drawN m k a (c + 1) else drawN m (k + 1) (a - nck m k) (c + 1)).length = k + 1
    by_cases ha : a < nck m k
    · rw [if_pos ha, List.length_cons, drawN_len m k a (c + 1) ha]
    · rw [if_neg ha, drawN_len m (k + 1) (a - nck m k) (c + 1) (by omega)]
theorem nck_zero (m : Nat) : nck m 0 = 1 := by cases m <;> rfl
theorem nck_pos : ∀ {m k}, k ≤ m → 0 < nck m k
  | m, 0, _ => by rw [nck_zero]; exact Nat.one_pos
  | 0, k + 1, h => by omega
  | m + 1, k + 1, h => by
    have := nck_pos (m := m) (k := k) (by omega)
    show 0 < nck m k + nck m (k + 1)
    omega
theorem nck_out : ∀ {m k}, m < k → nck m k = 0
  | m, 0, h => by omega
  | 0, k + 1, _ => rfl
  | m + 1, k + 1, h => by
    show nck m k + nck m (k + 1) = 0
    rw [nck_out (show m < k by omega), nck_out (show m < k + 1 by omega)]
theorem comb_small : ∀ n k : Fin 13, PySem.W.mcComb ((n : Nat) : Int) ((k : Nat) : Int) = ((nck n k : Nat) : Int) := by decide +kernel
theorem comb_bin {n k : Nat} (hn : n ≤ 12) (hk : k ≤ 12) : PySem.W.mcComb (n : Int) (k : Int) = (nck n k : Nat) := comb_small ⟨n, by omega⟩ ⟨k, by omega⟩
/-- ascending from c on, below c + m -/
def asc : Nat → Nat → List Nat → Bool
  | _, _, [] => true
  | c, t, x :: r => decide (c ≤ x) && (decide (x < t) && asc (x + 1) t r)
theorem setsN_asc : ∀ m k c l, l ∈ setsN m k c → l.length = k ∧ asc c (c + m) l = true
  | 0, 0, c, l, h => by
    have e : l = [] := by simpa [setsN] using h
    rw [e] <;> exact ⟨rfl, rfl⟩
  | m + 1, 0, c, l, h => by
    have e : l = [] := by simpa [setsN] using h
    rw [e] <;> exact ⟨rfl, rfl⟩
  | 0, _ + 1, c, l, h => by simp [setsN] at h
  | m + 1, k + 1, c, l, h => by
    have h' : l ∈ (setsN m k (c + 1)).map (c :: ·) ++ setsN m (k + 1) (c + 1) := h
    rcases List.mem_append.mp h' with h1 | h1
    · obtain ⟨r, hr, e⟩ := List.mem_map.mp h1
      subst e
      obtain ⟨l1, a1⟩ := setsN_asc m k (c + 1) r hr
      refine ⟨by simp [l1], ?_⟩
      show (decide (c ≤ c) && (decide (c < c + (m + 1)) && asc (c + 1) (c + (m + 1)) r)) = true
      rw [decide_eq_true (Nat.le_refl c), decide_eq_true (show c < c + (m + 1) by omega), show c + (m + 1) = c + 1 + m by omega, a1] <;> rfl
    · obtain ⟨l1, a1⟩ := setsN_asc m (k + 1) (c + 1) l h1
      refine ⟨l1, ?_⟩
      cases l with
      | nil => rfl
      | cons x r =>
        have a2 : (decide (c + 1 ≤ x) && (decide (x < c + 1 + m) && asc (x + 1) (c + 1 + m) r)) = true := a1
        rw [Bool.and_eq_true, Bool.and_eq_true] at a2
        have h1 := of_decide_eq_true a2.1
        show (decide (c ≤ x) && (decide (x < c + (m + 1)) && asc (x + 1) (c + (m + 1)) r)) = true
        rw [show c + (m + 1) = c + 1 + m by omega, decide_eq_true (show c ≤ x by omega), a2.2.1, a2.2.2] <;> rfl
/-- the number of the sets ahead: those that go on with lesser cells, from c up to x, k more behind each; t the cells -/
def ahead (t k : Nat) : Nat → Nat → Nat
  | _, 0 => 0
  | c, n + 1 => nck (t - c - 1) k + ahead t k (c + 1) n
/-- the number that draws a set: from c on -/
def coinN (t : Nat) : Nat → List Nat → Nat
  | _, [] => 0
  | c, x :: r => ahead t r.length c (x - c) + coinN t (x + 1) r
theorem coinN_at : ∀ m k a c, a < nck m k → coinN (c + m) c (drawN m k a c) = a
  | 0, 0, a, c, h => by
    have e : a = 0 := by simp [nck] at h; omega
    rw [e] <;> rfl
  | m + 1, 0, a, c, h => by
    have e : a = 0 := by simp [nck] at h; omega
    rw [e] <;> rfl
  | 0, _ + 1, a, c, h => by simp [nck] at h
  | m + 1, k + 1, a, c, h => by
    have h' : a < nck m k + nck m (k + 1) := h
    show coinN (c + (m + 1)) c (if a < nck m k then c :: drawN m k a (c + 1) else drawN m (k + 1) (a - nck m k) (c + 1)) = a
    by_cases ha : a < nck m k
    · rw [if_pos ha]
      show ahead (c + (m + 1)) (drawN m k a (c + 1)).length c (c - c) + coinN (c + (m + 1)) (c + 1) (drawN m k a (c + 1)) = a
      rw [Nat.sub_self, show c + (m + 1) = c + 1 + m by omega, coinN_at m k a (c + 1) ha]
      show 0 + a = a
      omega
    · rw [if_neg ha]
      have hb : a - nck m k < nck m (k + 1) := by omega
      have ih := coinN_at m (k + 1) (a - nck m k) (c + 1) hb
      have hl := drawN_len m (k + 1) (a - nck m k) (c + 1) hb
      have hm := (setsN_asc m (k + 1) (c + 1) _ (List.mem_of_getElem? (drawN_at m (k + 1) (a - nck m k) (c + 1) hb))).2
      cases e : drawN m (k + 1) (a - nck m k) (c + 1) with
      | nil => rw [e] at hl; cases hl
      | cons x r =>
        rw [e] at ih hl hm
        have a2 : (decide (c + 1 ≤ x) && (decide (x < c + 1 + m) && asc (x + 1) (c + 1 + m) r)) = true := hm
        rw [Bool.and_eq_true] at a2
        have h1 := of_decide_eq_true a2.1
        have hr : r.length = k := by simpa using hl
        have ih' : ahead (c + 1 + m) r.length (c + 1) (x - (c + 1)) + coinN (c + 1 + m) (x + 1) r = a - nck m k := ih
        show ahead (c + (m + 1)) r.length c (x - c) + coinN (c + (m + 1)) (x + 1) r = a
        rw [show x - c = (x - (c + 1)) + 1 by omega, show c + (m + 1) = c + 1 + m by omega]
        show nck (c + 1 + m - c - 1) r.length + ahead (c + 1 + m) r.length (c + 1) (x - (c + 1)) + coinN (c + 1 + m) (x + 1) r = a
        rw [show c + 1 + m - c - 1 = m by omega, hr] at *
        omega
/-! ### the law's own way to the sets -/
/-- a set gone on with each greater cell -/
def lastN (l : List Nat) : Nat := l.getLast?.getD 0
def goesOn (l : List Nat) (c : Nat) : Bool := l.isEmpty || decide (lastN l < c)
def extN (n : Nat) (l : List Nat) : List (List Nat) := ((List.range n).filter (goesOn l)).map fun c => l ++ [c]
def lawSets (n : Nat) : Nat → List (List Nat)
  | 0 => [[]]
  | t + 1 => (lawSets n t).flatMap (extN n)
theorem lawSets_small : ∀ n k : Fin 13, lawSets n k = setsN n k 0 := by decide +kernel
theorem lawSets_eq {n k : Nat} (hn : n ≤ 12) (hk : k ≤ 12) : lawSets n k = setsN n k 0 := lawSets_small ⟨n, by omega⟩ ⟨k, by omega⟩
theorem nck_small : ∀ n k : Fin 13, nck n k ≤ 924 := by decide +kernel
theorem nck_le {n k : Nat} (hn : n ≤ 12) (hk : k ≤ 12) : nck n k ≤ 924 := nck_small ⟨n, by omega⟩ ⟨k, by omega⟩
theorem lawSets_len {n k : Nat} (hn : n ≤ 12) (hk : k ≤ 12) : (lawSets n k).length = nck n k := by rw [lawSets_eq hn hk, setsN_len]
/-- the first turns are no longer than all -/
theorem flat_take {α β : Type} (f : α → List β) : ∀ (l : List α) (i : Nat), ((l.take i).flatMap f).length ≤ (l.flatMap f).length
  | [], i => by simp
  | a :: r, 0 => Nat.zero_le _
  | a :: r, i + 1 => by
    have ih := flat_take f r i
    rw [List.take_succ_cons, List.flatMap_cons, List.flatMap_cons, List.length_append, List.length_append]
    omega
end Hd

set_option maxHeartbeats 4000000
/-! generator expressions whose elements call: the frame's context, its start -/
namespace Hd
open PySem PySem.Spec PyProof.Rows L2
/-- a generator expression's own names -/
structure GenOk (N : List Str) (sc scope : Scope) (own : List (Str × Nat)) : Prop where
  blk : BlkOk N sc scope own
  co : scope.isCoroutine = false
  nocell : ∀ y ∈ scope.names, y.2 ≠ .cell
  dot : scope.names.lookup (".0" : Str) = some NameKind.local
def genB (N : List Str) (sc scope : Scope) (own : List (Str × Nat)) : Bool := blkC N sc scope own && (!scope.isCoroutine && ((scope.names.all fun y => !decide (y.2 = .cell)) && decide (scope.names.lookup (".0" : Str) = some NameKind.local)))
theorem genOk_by {N : List Str} {sc scope : Scope} {own : List (Str × Nat)} (h : genB N sc scope own = true) : GenOk N sc scope own := by
  unfold genB at h
  simp only [Bool.and_eq_true, Bool.not_eq_true', decide_eq_true_eq, decide_eq_false_iff_not, List.all_eq_true] at h
  exact ⟨blkOk_by h.1, h.2.1, h.2.2.1, h.2.2.2⟩
/-- the generator's frame, run under A; pn: its own object -/
def gx (X : Cx) (A : Around) (s : Shared) (H : Hp) (cenv : Env) (fp : List Addr) (pn : List (Addr × Obj)) : Cx :=
  { X with A := A, s_0 := s, H_0 := H, env := cenv, outer := X.stack, stack := cenv :: X.stack, ex := fp, fn := fun _ => false, calm := true, pn := pn, xe := fun _ _ => False }
abbrev gcl (X : Cx) (scope : Scope) : List (Str × Addr) := cloFrom X.env.cells scope.names []
abbrev gev (X : Cx) (scope : Scope) (C : Addr) (code : Value) : Env := genEnv scope (gcl X scope) C code builtinsNs X.env
section
variable {X : Cx} {pins : List (Addr × Obj)} {σ : L2.St} {H : Hp} {s : Shared}
theorem GenOk.free {scope : Scope} {own : List (Str × Nat)} (ok : GenOk X.N X.env.scope scope own) (I : X.Ok) : ∀ y ∈ scope.names, y.2 = .free → ∃ c, X.env.cells.lookup y.1 = some c := fun y hy e => by
  rcases ok.blk.free y hy e with k | k
  · exact I.has _ (.inl k)
  · exact I.has _ (.inr k)
theorem gx_start {scope : Scope} {own : List (Str × Nat)} {fp : List Addr} {it code : Value} {A : Around} {h' : Heap} {g' : Array GenState} {tk : Nat} (I : Inv X pins σ H s) (ok : GenOk X.N X.env.scope scope own) (hN : X.N.Nodup) (hfp : ∀ b ∈ fp, FpOk X pins H b ∧ b < s.heap.objs.size)
    (hn : h'.Ns s.heap.objs.size (fun y => if y = (".0" : Str) then some it else none)) (kp : ∀ b o, s.heap.get? b = some o → h'.get? b = some o) (hg : AllBare g') (hA : A.frames = some (gev X scope s.heap.objs.size code :: X.stack)) (hh : A.handled = none) :
    Inv (gx X A s H (gev X scope s.heap.objs.size code) fp []) [] (wipe σ (own.map (·.2))) H { s with heap := h', gens := g', toks := tk } := by
  have hfree := ok.free I.ok
  -- a captured name's cell is the def's
  have back : ∀ {y c}, (gcl X scope).lookup y = some c → X.env.cells.lookup y = some c := fun {y c} e => by
    rcases cloFrom_mem (PySem.mem_of_lookup e) with hm | ⟨h1, h2⟩
    · cases hm
    · obtain ⟨c1, hc⟩ := hfree _ h1 rfl
      have hc : X.env.cells.lookup y = some c1 := hc
      have e2 : c = c1 := by rw [h2, hc] <;> rfl
      rw [e2]
      exact hc
  have forth : ∀ {y}, scope.names.lookup y = some .free → ∃ c, (gcl X scope).lookup y = some c := fun {y} hl => by
    have hy : (y, NameKind.free) ∈ scope.names := PySem.mem_of_lookup hl
    exact mem_lookup (cloFrom_has (cells := X.env.cells) (acc := []) hy)
  have old : ∀ {y c}, (gcl X scope).lookup y = some c → c < s.heap.objs.size := fun {y c} e => by
    obtain ⟨v, z⟩ := I.cell y c (back e)
    exact z.lt
  have oks : (gx X A s H (gev X scope s.heap.objs.size code) fp []).Ok :=
    { mod := I.ok.mod
      kind := ok.blk.kind
      glob := I.ok.glob
      blt := rfl
      above := Nat.le_refl _
      inj := fun y z c e1 e2 => I.ok.inj y z c (back e1) (back e2)
      has := fun y hy => by
        have hy' : scope.names.lookup y = some .cell ∨ scope.names.lookup y = some .free := hy
        rcases hy' with k | k
        · exact absurd rfl (ok.nocell _ (PySem.mem_of_lookup k))
        · exact forth k
      cab := fun y c z _ => by
        have z' : false = true := z
        cases z'
      hd := fun _ => hh
      frames := hA
      stk := .inr ⟨rfl, rfl⟩
      exf := fun b hb => ⟨Nat.ne_of_lt (hfp b hb).2, fun y c e => (hfp b hb).1.2.2.2.2.1 y c (back e)⟩
      bs := I.bs
      bsz := Nat.le_trans I.ok.bsz I.sz
      noex := fun b o e hb => by
        rcases (hfp b hb).1.2.2.2.1 with z | z
        · exact I.ok.noex b o e z
        · have l1 := Nat.lt_of_lt_of_le (Heap.lt_size e) I.ok.bsz
          exact Nat.lt_irrefl _ (Nat.lt_of_lt_of_le l1 z)
      exfs := fun b hb z => by
        rcases List.mem_cons.mp (I.stkSub b z) with q | q
        · exact (hfp b hb).1.2.1 q
        · exact (hfp b hb).1.2.2.1 q
      funs := I.stack
      frf := I.stkFree }
  refine ⟨oks, rfl, hg, Un.kept kp, ⟨_, hn, fun i y v e1 e2 e3 => ?_⟩, fun y c e => ?_, I.hok.fresh (Nat.le_refl _), fun y c e => I.freeC y c (back e), fun p hp => absurd (show p ∈ ([] : List (Addr × Obj)) ++ [] from hp) (by simp), I.hok.kept kp, by rw [wipe_length]; exact I.len⟩
  · obtain ⟨w1, w2⟩ := wipe_some e2
    have isFree : scope.names.lookup y = some .free := by
      have no : ∀ k, scope.names.lookup y = some k → k = .local ∨ k = .cell → False := fun k hk hk2 => by
        rcases ok.blk.own _ (PySem.mem_of_lookup hk) hk2 with q | q
        · obtain ⟨p, hp, hpy⟩ := List.mem_map.mp q
          have at_ := ok.blk.ix p hp
          rw [show p.1 = y from hpy] at at_
          exact w2 (List.mem_map.mpr ⟨p, hp, nodup_ix hN at_ e1⟩)
        · exact q (List.mem_of_getElem? e1)
      have e3' : Vis scope y := e3
      rcases e3' with k | k | k
      · exact (no _ k (.inl rfl)).elim
      · exact (no _ k (.inr rfl)).elim
      · exact k
    obtain ⟨m, hm, look⟩ := I.loc
    have seen : Vis X.env.scope y := (ok.blk.free _ (PySem.mem_of_lookup isFree) rfl).elim (fun k => .inr (.inl k)) (fun k => .inr (.inr k))
    obtain ⟨u, r, q⟩ := look i y v e1 w1 seen
    obtain ⟨c2, h2⟩ := forth isFree
    refine ⟨u, r, .inr ⟨.inr isFree, c2, h2, ?_⟩⟩
    have c1 := back h2
    rcases q with ⟨k, _⟩ | ⟨_, c3, e', z⟩
    · have k' : X.env.scope.names.lookup y = some .local := k
      rcases ok.blk.free _ (PySem.mem_of_lookup isFree) rfl with k2 | k2 <;> rw [show X.env.scope.names.lookup y = _ from k2] at k' <;> cases k'
    · rw [c1] at e'
      cases e'
      exact z.keeps kp
  · obtain ⟨v, z⟩ := I.cell y c (back e)
    exact ⟨v, z.keeps kp⟩
end
end Hd

set_option maxHeartbeats 4000000
/-! generator expressions: the loop of the frame -/
namespace Hd
open PySem PySem.Spec PyProof.Rows L2
/-- an item is out: P tells what its taker wants (c: what the taker holds, read off the state at the last wakening; Ss: its own objects); it goes on from any state that holds -/
def GYld {C : Type} (Z : Cx) (Gh : Shared → C → Prop) (Ss : List Addr) (P : C → V → Hp → (C → Hp → Prop) → Prop) : Protocol := fun n s₀ v s kap =>
  ∃ c y σ H ip, ∃ Nx : C → Hp → Prop, Gh s₀ c ∧ RelV y v ∧ Inv Z (pinsAt Ss s₀.heap ++ ip) σ H s ∧ (∀ p ∈ ip, p.1 ∉ Ss) ∧ P c y H Nx ∧ ∀ s' c' H', Inv Z (pinsAt Ss s'.heap ++ ip) σ H' s' → Gh s' c' → Nx c' H' → kap (.send .none) s'
def GEnd {C : Type} (Z : Cx) (Gh : Shared → C → Prop) (Ss : List Addr) (σ0 : L2.St) (Z0 : C → Hp → Prop) : GenEnd := fun n s₀ r s => ((r = .ok (.ret .none) ∨ r = .ok .next) ∧ ∃ c H, Gh s₀ c ∧ Inv Z (pinsAt Ss s₀.heap) σ0 H s ∧ Z0 c H) ∨ ∃ e, r = .error e ∧ False
abbrev gExp (elt tg iter : Expr) (ifs : List Expr) (scope : Scope) (pos : Pos) : Expr := .GeneratorExp elt [⟨tg, iter, ifs, 0⟩] scope pos
section
variable {C : Type} {Gh : Shared → C → Prop} {Ss : List Addr} {X : Cx} {B : Around} {s0 : Shared} {H0 : Hp} {cenv : Env} {fp : List Addr} {pn : List (Addr × Obj)} {elt tg iter : Expr} {ifs : List Expr} {scope : Scope} {pos : Pos} {it : Addr} {σ0 : L2.St} {vs : List Nat} {g : TG} {tt : TT} {te : TE} {J : It} {tn : Nat → Heap → Prop} {P : C → V → Hp → (C → Hp → Prop) → Prop} {Z0 : C → Hp → Prop} {W : C → Nat → Nat → Hp → Prop}
/-- one turn of the loop, as its reader sees it -/
def GTurn {C : Type} (σ : L2.St) (vs : List Nat) (g : TG) (tt : TT) (te : TE) (J : It) (P : C → V → Hp → (C → Hp → Prop) → Prop) (Z0 : C → Hp → Prop) (W : C → Nat → Nat → Hp → Prop) : Prop := ∀ c i m H, W c i m H →
  (J.stop i H ∧ Z0 c H) ∨ (J.go i H ∧ ∃ Nx : C → Hp → Prop, (∀ c' H', Nx c' H' → ∃ m', m' < m ∧ W c' (i + 1) m' H') ∧ ∀ x H', J.yld i H x H' → g x (wipe σ vs) H' fun σ2 H2 => wipe σ2 vs = wipe σ vs ∧ tt σ2 H2 fun b H3 => if b = true then te σ2 H3 fun y H4 => P c y H4 Nx else Nx c H3)
theorem seg_gx (Z : Cx) (hZ : Z = gx X (B.over (.compLoop (gExp elt tg iter ifs scope pos) 0 (.ref it) .none cenv) []) s0 H0 cenv fp pn) (hco : cenv.scope.isCoroutine = false) (T : Turn X.prog X.w X.K tg J fp it tn) (pg : PG Z tg g) (pt : PTs Z ifs tt) (pe : PE Z elt te) (turn : GTurn σ0 vs g tt te J P Z0 W) (hpn : ∀ p ∈ pn, p.1 ∉ fp) (hSs : ∀ b ∈ Ss, b ∉ fp) :
    ∀ (m n i : Nat) (c : C) (s₀ s : Shared) (H : Hp), m < n → Gh s₀ c → Inv Z (pinsAt Ss s₀.heap) (wipe σ0 vs) H s → tn i s.heap → (∀ b ∈ fp, H b = none) → W c i m H →
      Seg (model X.prog X.w) B (GEnd Z Gh Ss (wipe σ0 vs) Z0) (GYld Z Gh Ss P) n s₀ (.compLoop (gExp elt tg iter ifs scope pos) 0 (.ref it) .none cenv) ((model X.prog X.w).den (.compLoop (gExp elt tg iter ifs scope pos) 0 (.ref it) .none cenv)) [] s := by
  subst hZ
  have stat : ∀ {hp : Heap} {σ' : L2.St} {H' : Hp} {s' : Shared}, Inv (gx X (B.over (.compLoop (gExp elt tg iter ifs scope pos) 0 (.ref it) .none cenv) []) s0 H0 cenv fp pn) (pinsAt Ss hp) σ' H' s' → (∀ b ∈ fp, H' b = none) → ∀ b ∈ fp, FpOk (gx X (B.over (.compLoop (gExp elt tg iter ifs scope pos) 0 (.ref it) .none cenv) []) s0 H0 cenv fp pn) (pinsAt Ss hp) H' b := fun {hp σ' H' s'} I' hn b hb => by
    refine ⟨hn b hb, (I'.ok.exf b hb).1, I'.ok.exfs b hb, .inl hb, fun x c e => (I'.ok.exf b hb).2 x c e, fun p hq z => ?_⟩
    rcases List.mem_append.mp hq with q | q
    · exact hpn p q (by rw [z]; exact hb)
    · exact hSs p.1 (of_pinsAt q).1 (by rw [z]; exact hb)
  generalize hZ : gx X (B.over (.compLoop (gExp elt tg iter ifs scope pos) 0 (.ref it) .none cenv) []) s0 H0 cenv fp pn = Z at *
  have hAo : B.over (.compLoop (gExp elt tg iter ifs scope pos) 0 (.ref it) .none cenv) [] = Z.A := by rw [← hZ] <;> rfl
  have hp1 : Z.prog = X.prog := by rw [← hZ] <;> rfl
  have hp2 : Z.w = X.w := by rw [← hZ] <;> rfl
  have hp3 : Z.K = X.K := by rw [← hZ] <;> rfl
  have hp4 : Z.env = cenv := by rw [← hZ] <;> rfl
  have hp5 : Z.calm = true := by rw [← hZ] <;> rfl
  have hp8 : Z.xe = fun _ _ => False := by rw [← hZ] <;> rfl
  intro m
  induction m using Nat.strongRecOn with
  | _ m ih =>
    intro n i c s₀ s H hmn gh I st nf w
    show Seg _ B _ _ n s₀ _ ((compTurn (.GeneratorExp elt [⟨tg, iter, ifs, 0⟩] scope pos) 0 (.ref it) .none cenv).onRaise (leaving cenv)) [] s
    rw [compTurn_gen, Sem.onRaise_eq_wrap]
    refine seg_bind_wrap (wpAny_standAt ?_)
    rcases turn c i m H w with ⟨stop, hz⟩ | ⟨go, Nx, hNx, step⟩
    · have td := T.done Z hp1 hp2 hp3 hp5 i _ s _ H (fun _ _ => False) I (stat I nf) st stop
      rw [← hAo] at td
      refine seg_bind_wrap (wpAny_mono td (fun r s6 hr => ?_) fun _ _ e => e.elim)
      obtain ⟨rfl, I6⟩ := hr
      exact seg_end (.ok .next) (.inl ⟨.inr rfl, c, H, gh, I6, hz⟩)
    · have ti := T.item Z hp1 hp2 hp3 hp5 i _ s _ H (fun _ _ => False) I (stat I nf) st go
      rw [← hAo] at ti
      refine seg_bind_wrap (wpAny_mono ti (fun r s6 hr => ?_) fun _ _ e => e.elim)
      obtain ⟨u, rfl, h6⟩ := hr
      refine seg_bind_wrap (wpAny_mono h6 (fun _ s7 h7 => ?_) fun _ _ e => e.elim)
      obtain ⟨x, H7, I7, r7, y7, st7, n7⟩ := h7
      have I7' := I7.pinned (stat I7 n7) (T.obj _ _ st7)
      have go8 := pg.run _ s7 _ H7 x u _ I7' r7 (step x H7 y7)
      rw [hp1, hp2, hp4, hp8, ← hAo] at go8
      refine seg_bind_wrap (wpAny_mono go8 (fun _ s8 h8 => ?_) fun _ _ e => e.elim)
      obtain ⟨σ8, H8, I8, hw8, q8⟩ := h8
      have go9 := pt.run _ s8 σ8 H8 _ I8 q8
      rw [hp1, hp2, hp4, hp8, ← hAo] at go9
      refine seg_bind_wrap (wpAny_mono go9 (fun b s9 h9 => ?_) fun _ _ e => e.elim)
      obtain ⟨H9, I9, q9⟩ := h9
      -- behind the turn
      have fin : ∀ {s₀' s' : Shared} {c' : C} {H' : Hp} {n' : Nat}, m ≤ n' → Gh s₀' c' → Inv Z (pinsAt Ss s₀'.heap ++ pinsAt fp s7.heap) σ8 H' s' → Nx c' H' → Seg (model X.prog X.w) B (GEnd Z Gh Ss (wipe σ0 vs) Z0) (GYld Z Gh Ss P) n' s₀' (.compLoop (gExp elt tg iter ifs scope pos) 0 (.ref it) .none cenv) (.pure (.again (.compLoop (gExp elt tg iter ifs scope pos) 0 (.ref it) .none cenv))) [] s' := fun {s₀' s' c' H' n'} hm gh' I' nx => by
        obtain ⟨m', hm', w'⟩ := hNx c' H' nx
        have pin' : ∀ b ∈ fp, ∀ o, s7.heap.get? b = some o → s'.heap.get? b = some o ∧ H' b = none := fun b hb o e =>
          let z := I'.pin (b, o) (List.mem_append_right _ (List.mem_append_right _ (mem_pinsAt hb e)))
          ⟨z.1, z.2.1⟩
        have hl : (wipe σ0 vs).length = σ8.length := by rw [← hw8, wipe_length]
        refine seg_again rfl (ih m' hm' n' (i + 1) c' s₀' s' H' (by omega) gh' ((I'.unpinned (pins := pinsAt Ss s₀'.heap)).weak hl (fun j v e => ?_)) (T.keep _ _ _ st7 fun b hb o e => (pin' b hb o e).1) (fun b hb => ?_) w')
        · rw [← hw8] at e
          exact (wipe_some e).1
        · obtain ⟨o, e, _⟩ := T.obj _ _ st7 b hb
          exact (pin' b hb o e).2
      cases b with
      | false =>
        simp only [Bool.false_eq_true, if_false] at q9 ⊢
        exact fin (Nat.le_of_lt hmn) gh I9 q9
      | true =>
        simp only [if_true] at q9 ⊢
        have plain : ∀ v, yieldOut cenv v = yieldValue v := fun v => by
          unfold yieldOut
          rw [hco, if_neg (by decide)]
        simp only [plain]
        rw [Sem.bind_eq_wrap', Sem.bind_eq_wrap', Sem.wrap_wrap, Sem.wrap_wrap]
        have go10 := pe.run _ s9 σ8 H9 _ I9 q9
        rw [hp1, hp2, hp4, hp8, ← hAo] at go10
        refine seg_wrap (wpAny_mono go10 (fun v s10 h10 => ?_) fun _ _ e => e.elim)
        obtain ⟨y, H10, I10, r10, q10⟩ := h10
        obtain ⟨n', rfl⟩ : ∃ n', n = n' + 1 := ⟨n - 1, by omega⟩
        refine seg_at (seg_yield rfl rfl rfl ⟨c, y, σ8, H10, _, Nx, gh, r10, I10, fun p hp hm => hSs _ hm (of_pinsAt hp).1, q10, fun s' c' H' I' gh' nx => fin (by omega) gh' I' nx⟩)
end
end Hd

set_option maxHeartbeats 4000000
/-! generator expressions: what takes from them -/
namespace Hd
open PySem PySem.Spec PyProof.Rows L2 GenW
section
variable {C : Type} {Gh : Shared → C → Prop} {Ss : List Addr} {X Z : Cx} {pins ip : List (Addr × Obj)} {σ σ' : L2.St} {H H' H0 : Hp} {s s' s0 : Shared} {a : Addr} {gi : Nat} {σ0 : L2.St} {P : C → V → Hp → (C → Hp → Prop) → Prop} {Z0 : C → Hp → Prop}
/-- the loop's beginning: it may ask for the iterator once more -/
theorem seg_gs {B : Around} {R : GenEnd} {Y : Protocol} {n : Nat} {prog : Program} {w : World} {elt tg iter : Expr} {ifs : List Expr} {scope : Scope} {pos : Pos} {it : Addr} {cenv : Env} {s₀ : Shared}
    (self : ∀ (A : Around) (Q : Value → Shared → Prop) (E : Value → Shared → Prop), Q (.ref it) s → wpAny (model prog w) A (pyIter (.ref it)) Q E s)
    (loop : Seg (model prog w) B R Y n s₀ (.compLoop (gExp elt tg iter ifs scope pos) 0 (.ref it) .none cenv) ((model prog w).den (.compLoop (gExp elt tg iter ifs scope pos) 0 (.ref it) .none cenv)) [] s) :
    Seg (model prog w) B R Y n s₀ (.compStart (gExp elt tg iter ifs scope pos) 0 (.ref it) .none cenv) ((model prog w).den (.compStart (gExp elt tg iter ifs scope pos) 0 (.ref it) .none cenv)) [] s := by
  show Seg _ B _ _ n s₀ _ ((compStart (.GeneratorExp elt [⟨tg, iter, ifs, 0⟩] scope pos) 0 (.ref it) .none cenv).onRaise (leaving cenv)) [] s
  unfold compStart
  rw [Sem.onRaise_eq_wrap]
  show Seg _ B _ _ n s₀ _ ((ask >>= _).wrap _ _ _ _) [] s
  refine seg_bind_wrap (wpAny_askSetting ?_)
  split
  · exact seg_again rfl loop
  · refine seg_bind_wrap (wpAny_rule ?_)
    show Seg _ B _ _ n s₀ _ ((standAt iter.pos >>= _).wrap _ _ _ _) [] s
    exact seg_bind_wrap (wpAny_standAt (seg_bind_wrap (self _ _ _ (seg_again rfl loop))))
/-- from the generator's frame back to the def's -/
theorem z_back (I : Inv X pins σ H0 s0) {A : Around} {cenv : Env} {fp : List Addr} {pn : List (Addr × Obj)} (hfp : ∀ b ∈ fp, FpOk X pins H0 b) (J : Inv (gx X A s0 H0 cenv fp pn) ip σ' H s') : Inv X pins σ H s' :=
  I.call' (ch := fp) J.os J.base J.hok J.bare fun b hb => ⟨(hfp b hb).2.2.2.1, (hfp b hb).2.1, (hfp b hb).2.2.2.2.1, (hfp b hb).2.2.2.2.2⟩
/-- only the generators' table is another -/
theorem z_gens (J : Inv Z ip σ H s) {g' : Array GenState} (hg : AllBare g') : Inv Z ip σ H { s with gens := g' } :=
  Inv.call' (ch := []) J rfl (Un.kept fun b o e => e) J.hok hg fun b hb => absurd hb (by simp)
/-- the generator stands ready: at most n items come -/
def GSt {C : Type} (Z : Cx) (Gh : Shared → C → Prop) (Ss : List Addr) (σ0 : L2.St) (P : C → V → Hp → (C → Hp → Prop) → Prop) (Z0 : C → Hp → Prop) (B : Around) (a : Addr) (gi n : Nat) (s : Shared) : Prop :=
  s.heap.IsGen a gi ∧ s.heap.NoLimit ∧ ∃ gs, s.gens[gi]? = some gs ∧ gs.Goes (model Z.prog Z.w) B (GEnd Z Gh Ss σ0 Z0) (GYld Z Gh Ss P) n (.send .none) (s.setGen gi .running)
theorem gen_next {A : Around} {n : Nat} {Q : Option Value → Shared → Prop} {E : Value → Shared → Prop} (hGh : ∀ s s' c, s'.heap = s.heap → Gh s c → Gh s' c) (hh : A.handled = none) (hd : A.depth < recursionLimit) (hpin : ∃ go, (a, go) ∈ Z.pn ∧ ∀ h : Heap, h.get? a = some go → h.IsGen a gi) (G : GSt Z Gh Ss σ0 P Z0 A.in1 a gi n s)
    (hY : ∀ (c : C) (y : V) (v : Value) (ip : List (Addr × Obj)) (σ : L2.St) (H : Hp) (s' : Shared) (Nx : C → Hp → Prop), Gh s c → RelV y v → Inv Z (pinsAt Ss s.heap ++ ip) σ H s' → (∀ p ∈ ip, p.1 ∉ Ss) → P c y H Nx →
      (∀ s'' c' H', Inv Z (pinsAt Ss s''.heap ++ ip) σ H' s'' → Gh s'' c' → Nx c' H' → s''.gens = s'.gens → ∃ m, n = m + 1 ∧ GSt Z Gh Ss σ0 P Z0 A.in1 a gi m s'') → Q (some v) s')
    (hP : ∀ c H s', Gh s c → Inv Z (pinsAt Ss s.heap) σ0 H s' → Z0 c H → Q none s') : wpAny (model Z.prog Z.w) A (pyNext (.ref a)) Q E s := by
  obtain ⟨g1, g2, gs, g3, g4⟩ := G
  have hgl : gi < s.gens.size := (Array.getElem?_eq_some_iff.mp g3).1
  refine wpAny_gsz (n := gi + 1) hgl (next_genG (F := fun _ s₀ s₁ => ∃ c H, Gh s₀ c ∧ Inv Z (pinsAt Ss s₀.heap) σ0 H s₁ ∧ Z0 c H) (Er := fun _ _ => False) hh g2 hd g1 g3 g4 (fun v s₁ gs' hb hv hz => ?_) (fun s₁ hp h' hk hz => ?_) fun e s₁ he => he.elim)
  · obtain ⟨c, y, σ', H', ip', Nx, gh, r, J, hip, p, k⟩ := hv
    have hz1 : gi < s₁.gens.size := by
      have q : (s₁.setGen gi gs').gens.size = s₁.gens.size := setGen_size _ _ _
      omega
    have J' : Inv Z (pinsAt Ss s.heap ++ ip') σ' H' (s₁.setGen gi gs') := z_gens J (allBare_setGen J.bare hb)
    refine hY c y v ip' σ' H' _ Nx (hGh (s.setGen gi .running) s c rfl gh) r J' hip p fun s'' c'' H'' J'' gh'' nx eg => ?_
    cases n with
    | zero => exact (k s'' c'' H'' J'' gh'' nx).elim
    | succ m =>
      obtain ⟨go, h1, h2⟩ := hpin
      have eg' : s''.gens[gi]? = some gs' := by
        rw [eg]
        exact setGen_at hz1
      exact ⟨m, rfl, h2 _ (J''.pin _ (List.mem_append_left _ h1)).1, J''.nolimit, gs', eg', k (s''.setGen gi .running) c'' H'' (z_gens J'' (allBare_setGen J''.bare rfl)) (hGh s'' (s''.setGen gi .running) c'' rfl gh'') nx⟩
  · obtain ⟨c, H, gh, J, q⟩ := hp
    refine hP c H _ (hGh (s.setGen gi .running) s c rfl gh) ?_ q
    have J1 : Inv Z (pinsAt Ss s.heap) σ0 H { s₁ with heap := h' } := Inv.call' (ch := []) J rfl (Un.kept hk) (J.hok.kept hk) J.bare fun b hb => absurd hb (by simp)
    exact z_gens J1 (allBare_setGen J1.bare rfl)
/-- all of the items are true; QF: one is not -/
def PAll (QF : Hp → Prop) : Unit → V → Hp → (Unit → Hp → Prop) → Prop := fun _ y H Nx => ∃ c, y = .bl c ∧ (c = true → Nx () H) ∧ (c = false → QF H)
abbrev noGh : Shared → Unit → Prop := fun _ _ => True
theorem all_loop {A : Around} {QF QT : Hp → Prop} {R : Result → Shared → Prop} (hh : A.handled = none) (hd : A.depth < recursionLimit) (hpin : ∃ go, (a, go) ∈ Z.pn ∧ ∀ h : Heap, h.get? a = some go → h.IsGen a gi)
    (hT : ∀ H s', Inv Z [] σ0 H s' → QT H → R (.ok (.ret (.bool true))) s') (hF : ∀ ip σ H s', Inv Z ip σ H s' → QF H → R (.ok (.ret (.bool false))) s') :
    ∀ (n : Nat) (s : Shared), GSt Z noGh [] σ0 (PAll QF) (fun _ => QT) A.in1.in1 a gi n s → codeAny (model Z.prog Z.w) A (.builtin "all.loop" ⟨[.ref a], []⟩) R s := by
  intro n
  induction n with
  | zero =>
    intro s G
    refine codeAny_builtin F.entry_all_loop ?_
    rw [Around.under_plainId F.plain_all_loop _]
    show wpAny _ A.in1 (pyNext (.ref a) >>= _) _ _ s
    refine wpAny_bind (gen_next (A := A.in1) (fun _ _ _ _ h => h) hh hd hpin G (fun u y v ip σ H s' Nx _ r J _ p k => ?_) (fun u H s' _ J q => wpAny_bind (wpAny_rule (wpAny_pure (hT H s' J q)))))
    obtain ⟨c, rfl, p1, p2⟩ := p
    obtain rfl : v = Value.bool c := r
    refine wpAny_bind (wpAny_holding (wpAny_truthy_bool ?_))
    refine wpAny_bind (wpAny_letGo ?_)
    cases c with
    | false => exact wpAny_bind (wpAny_rule (wpAny_pure (hF _ σ H s' J (p2 rfl))))
    | true =>
      obtain ⟨m, e, _⟩ := k s' () H J trivial (p1 rfl) rfl
      exact absurd e (by omega)
  | succ n ih =>
    intro s G
    refine codeAny_builtin F.entry_all_loop ?_
    rw [Around.under_plainId F.plain_all_loop _]
    show wpAny _ A.in1 (pyNext (.ref a) >>= _) _ _ s
    refine wpAny_bind (gen_next (A := A.in1) (fun _ _ _ _ h => h) hh hd hpin G (fun u y v ip σ H s' Nx _ r J _ p k => ?_) (fun u H s' _ J q => wpAny_bind (wpAny_rule (wpAny_pure (hT H s' J q)))))
    obtain ⟨c, rfl, p1, p2⟩ := p
    obtain rfl : v = Value.bool c := r
    refine wpAny_bind (wpAny_holding (wpAny_truthy_bool ?_))
    refine wpAny_bind (wpAny_letGo ?_)
    cases c with
    | false => exact wpAny_bind (wpAny_rule (wpAny_pure (hF _ σ H s' J (p2 rfl))))
    | true =>
      obtain ⟨m, e, G'⟩ := k s' () H J trivial (p1 rfl) rfl
      obtain rfl : n = m := by omega
      exact wpAny_pure ⟨plainId_quiet F.plain_all_loop _, ih s' G'⟩
end
end Hd

set_option maxHeartbeats 4000000
/-! generator expressions: the making -/
namespace Hd
open PySem PySem.Spec PyProof.Rows L2 GenW
section
variable {X : Cx} {pins : List (Addr × Obj)} {σ : L2.St} {H : Hp} {s : Shared}
theorem gx_pin {A : Around} {s0 s' : Shared} {H0 H' : Hp} {cenv : Env} {fp : List Addr} {σ' : L2.St} {q : Addr × Obj} (I : Inv (gx X A s0 H0 cenv fp []) [] σ' H' s') (h1 : s'.heap.get? q.1 = some q.2) (h2 : H' q.1 = none) (h3 : q.1 ≠ cenv.locals) (h4 : q.1 ∉ frs X.stack) (h5 : ∀ v, q.2.data ≠ .cell v) :
    Inv (gx X A s0 H0 cenv fp [q]) [] σ' H' s' :=
  { ok := { mod := I.ok.mod, kind := I.ok.kind, glob := I.ok.glob, blt := I.ok.blt, above := I.ok.above, inj := I.ok.inj, has := I.ok.has, cab := I.ok.cab, hd := I.ok.hd, frames := I.ok.frames, stk := I.ok.stk, exf := I.ok.exf, bs := I.ok.bs, bsz := I.ok.bsz, noex := I.ok.noex, exfs := I.ok.exfs, funs := I.ok.funs, frf := I.ok.frf }
    os := I.os, bare := I.bare, base := I.base, loc := I.loc, cell := I.cell, free := I.free, freeC := I.freeC
    pin := fun p hp => by
      have hp' : p ∈ [q] ++ ([] : List (Addr × Obj)) := hp
      rw [List.append_nil] at hp'
      rw [List.mem_singleton.mp hp']
      exact ⟨h1, h2, h3, h4, h5⟩
    hok := I.hok, len := I.len }
/-- what is there when a generator expression has been made: its frame's start is told for each around -/
structure GMake (X : Cx) (pins : List (Addr × Obj)) (σ : L2.St) (scope : Scope) (own : List (Str × Nat)) (e : Expr) (tg : Expr) (J : It) (H2 : Hp) (a : Addr) (s5 : Shared) : Prop where
  go : ∃ (it : Addr) (fp : List Addr) (tn : Nat → Heap → Prop) (s4 : Shared) (code : Value) (gi : Nat) (go : Obj), Inv X pins σ H2 s4 ∧ Turn X.prog X.w X.K tg J fp it tn ∧ tn 0 s5.heap ∧ (∀ b ∈ fp, FpOk X pins H2 b) ∧ a ∉ fp ∧ (∀ h : Heap, h.get? a = some go → h.IsGen a gi) ∧
    s5.heap.IsGen a gi ∧ s5.heap.NoLimit ∧ s5.gens[gi]? = some (.fresh (.compStart e 0 (.ref it) .none (gev X scope s4.heap.objs.size code))) ∧ (∀ b ∈ fp, H2 b = none) ∧
    ∀ A : Around, A.frames = some (gev X scope s4.heap.objs.size code :: X.stack) → A.handled = none → Inv (gx X A s4 H2 (gev X scope s4.heap.objs.size code) fp [(a, go)]) [] (wipe σ (own.map (·.2))) H2 s5
theorem gen_made {c P : Addr} {elt tg iter : Expr} {ifs : List Expr} {pos : Pos} {scope : Scope} {own : List (Str × Nat)} {wi : TI} {k : Nat} {Q' : Value → Shared → Prop} {R : It → Hp → Prop} (hr : Room (k + 1) X.A) (TB : GxR.TabB X.base X.mg c P) (hcode : X.env.code = .ref c) (ok : GenOk X.N X.env.scope scope own) (hN : X.N.Nodup) (hi : PI X tg iter wi)
    (hs : ∀ v, genFold iter X.env v = pure v) (I : Inv X pins σ H s) (h : wi σ H fun J H1 => GxR.TabG H1 P ∧ ∀ H2, GxR.Tabbed P H1 H2 → R J H2)
    (hQ : ∀ J H2 a s5, R J H2 → GMake X pins σ scope own (gExp elt tg iter ifs scope pos) tg J H2 a s5 → Q' (.ref a) s5) :
    wpAny (model X.prog X.w) X.A (eval (gExp elt tg iter ifs scope pos) X.env) Q' X.xe s := by
  refine wpAny_GeneratorExp_make ok.co (closure_ok (ok.free I.ok)) ok.nocell ok.dot ok.blk.kind (by have := hr.dp; omega) ?_ hs
  refine thn (hi.run pins s σ H _ I h) fun xv s1 hx => thn hx fun itv s2 h2 => ?_
  obtain ⟨it, fp, tn, J, H2, rfl, I2, T, st2, f2, ⟨ps, hP, ht⟩, q⟩ := h2
  refine ⟨I2.nolimit, ?_⟩
  have hPs : s2.heap.get? P = some { cls := .none, data := .fields ps } := I2.hok P _ hP
  have cd : PySem.W.CodeHd s2.heap c P := TB.code.keeps fun b u e => I2.bk b u e
  have nP : ∀ b ∈ fp, b ≠ P := fun b hb e => by
    have := (f2 b hb).1
    rw [e, hP] at this
    cases this
  -- behind the code's look: the state, its heap
  have go : ∀ (code : Value) (s3 : Shared) (H3 : Hp), Inv X pins σ H3 s3 → GxR.Tabbed P H2 H3 → (∀ b o, b ≠ P → s2.heap.get? b = some o → s3.heap.get? b = some o) →
      wpAny (model X.prog X.w) X.A (builtinsFor X.env.globals X.env.builtins) (fun bi s₄ =>
        ∀ h', h'.Ns s₄.heap.objs.size (fun y => if y = (".0" : Str) then some (.ref it) else none) → Heap.SameBut s₄.heap.objs.size (s₄.heap.push { cls := .type "frame", data := .dict #[] }) h' →
          Q' (.ref h'.objs.size) { s₄ with gens := s₄.gens.push (.fresh (.compStart (gExp elt tg iter ifs scope pos) 0 (.ref it) .none (genEnv scope (cloFrom X.env.cells scope.names []) s₄.heap.objs.size code bi X.env))), toks := s₄.toks + 1 + 1 + 1, heap := h'.push { cls := .type "generator", data := .fields #[.int s₄.gens.size 0, .str "<genexpr>" (s₄.toks + 1), .str (X.env.qual ++ "<genexpr>") (s₄.toks + 1 + 1)] } }) X.xe s3 := by
    intro code s3 H3 I3 tb kp
    obtain ⟨bm, ob, b1, b2, _, _, b5, b6, b7, b8⟩ := TB.bm
    refine wpAny_builtinsFor (m := X.mg) (by rw [I3.ok.glob]; exact I3.mod.glob.keeps I3.bk) b1 b2 (I3.bk _ _ b5) b6 b7 b8 fun h' hn sb => ?_
    have sz : h'.objs.size = s3.heap.objs.size + 1 := by rw [sb.1, Heap.size_push]
    have kp' : ∀ b o, s3.heap.get? b = some o → h'.get? b = some o := fun b o e => sb.extBut b o (Nat.ne_of_lt (Heap.lt_size e)) (Heap.get?_push_of_some _ e)
    have f3 : ∀ b ∈ fp, FpOk X pins H3 b := fun b hb => ⟨by rw [tb.2 b (nP b hb)]; exact (f2 b hb).1, (f2 b hb).2⟩
    have old : ∀ b ∈ fp, ∃ o, s2.heap.get? b = some o ∧ s3.heap.get? b = some o := fun b hb => by
      obtain ⟨o, e, _⟩ := T.obj _ _ st2 b hb
      exact ⟨o, e, kp b o (nP b hb) e⟩
    have lt3 : ∀ b ∈ fp, b < s3.heap.objs.size := fun b hb => let ⟨o, _, e⟩ := old b hb; Heap.lt_size e
    generalize hgo : ({ cls := .type "generator", data := .fields #[.int s3.gens.size 0, .str "<genexpr>" (s3.toks + 1), .str (X.env.qual ++ "<genexpr>") (s3.toks + 1 + 1)] } : Obj) = go
    have hpg : (h'.push go).get? h'.objs.size = some go := Heap.get?_push_size _ (by rw [← hgo] <;> rfl)
    have isg : ∀ hh : Heap, hh.get? h'.objs.size = some go → hh.IsGen h'.objs.size s3.gens.size := fun hh e => ⟨go, _, _, e, by rw [← hgo], by rw [← hgo], by rw [← hgo]⟩
    have kp5 : ∀ b o, s3.heap.get? b = some o → (h'.push go).get? b = some o := fun b o e => Heap.get?_push_of_some _ (kp' b o e)
    have bare5 : AllBare (s3.gens.push (.fresh (.compStart (gExp elt tg iter ifs scope pos) 0 (.ref it) .none (gev X scope s3.heap.objs.size code)))) := AllBare.push I3.bare rfl
    refine hQ J H3 _ _ (q H3 tb) ⟨it, fp, tn, s3, code, s3.gens.size, go, I3, T, ?_, f3, fun hm => ?_, isg, isg _ hpg, ?_, Array.getElem?_push_size .., fun b hb => (f3 b hb).1, fun A hA hh => ?_⟩
    · exact T.keep _ _ _ st2 fun b hb o e => kp5 b o (kp b o (nP b hb) e)
    · have := lt3 _ hm
      rw [sz] at this
      exact Nat.lt_irrefl _ (Nat.lt_of_succ_lt this)
    · exact I3.nolimit.keeps kp5
    · have st := gx_start (it := .ref it) (code := code) (A := A) (tk := s3.toks + 1 + 1 + 1) I3 ok hN (fun b hb => ⟨f3 b hb, lt3 b hb⟩) (hn.push go) kp5 bare5 hA hh
      refine gx_pin st hpg ?_ ?_ ?_ fun v z => ?_
      · exact I3.hok.fresh (by rw [sz]; exact Nat.le_succ _)
      · show h'.objs.size ≠ s3.heap.objs.size
        rw [sz]
        exact Nat.succ_ne_self _
      · intro hm
        have l := I3.lt
        rcases List.mem_cons.mp (I3.stkSub _ hm) with z | z
        · rw [← z, sz] at l
          exact Nat.lt_irrefl _ (Nat.lt_of_succ_lt l)
        · exact I3.nofs (by rw [sz]; exact Nat.le_succ _) z
      · rw [← hgo] at z
        cases z
  cases hf : codeAmong pos ps.toList with
  | some cv =>
    refine PySem.wpAny_genexprCode_hit hcode (cd.code hPs ht) hf ?_
    exact go cv s2 H2 I2 ⟨⟨ps, hP, ht⟩, fun b _ => rfl⟩ fun b o _ e => e
  | none =>
    refine PySem.wpAny_genexprCodeX hcode (cd.code hPs ht) (cd.tab hPs) hf fun c' h' tk hx hge hlt hco' _ htab' _ => ?_
    obtain ⟨o1, vs, f1, tf, fl, tgg, inF, tx, tt, op, _, _, _, _, _, _, _, _, _, htr, _⟩ := hco'
    have I3 := GxR.inv_tab (h' := h') (g' := s2.gens) (d' := s2.drawn) (t' := tk) I2 hP (fun b u hb e => hx b u hb e) htab'.2 I2.bare
    exact go (.ref c') _ _ I3 ⟨⟨_, upd_same, htr⟩, fun b hb => upd_ne hb⟩ fun b o hb e => hx b o hb e
/-- the around of the generator's frame -/
theorem over_room {k : Nat} {A : Around} {e : Expr} {it acc : Value} {cenv : Env} (hr : Room (k + 1) A) (hc : (Code.compLoop e 0 it acc cenv).weight = 1) (hu : (Code.compLoop e 0 it acc cenv).cUnits = 3) : Room k (A.in1.in1.over (.compLoop e 0 it acc cenv) []) := by
  have h1 : (A.in1.in1.over (.compLoop e 0 it acc cenv) []).depth = A.depth + (Code.compLoop e 0 it acc cenv).weight := rfl
  have h2 : (A.in1.in1.over (.compLoop e 0 it acc cenv) []).units = A.in1.in1.units + (Code.compLoop e 0 it acc cenv).cUnits := rfl
  have h3 : A.in1.in1.units = A.units + 1 + 1 := rfl
  have d := hr.dp
  have u := hr.un
  refine ⟨hr.hd, ?_, ?_⟩
  · rw [h1, hc]
    omega
  · rw [h2, hu, h3]
    omega
def tAllG (P : Addr) (wi : TI) (g : TG) (tt : TT) (te : TE) (vs : List Nat) : TE := fun σ H Q => wi σ H fun J H1 => GxR.TabG H1 P ∧ ∀ H2, GxR.Tabbed P H1 H2 → ∃ W : Unit → Nat → Nat → Hp → Prop, (∃ m, W () 0 m H2) ∧ GTurn σ vs g tt te J (PAll (Q (.bl false))) (fun _ => Q (.bl true)) W
/-- all(elt for tg in iter if ..), the element any expression -/
theorem pe_allG {c P : Addr} {elt tg iter : Expr} {ifs : List Expr} {p pos gpos : Pos} {scope : Scope} {own : List (Str × Nat)} {wi : TI} {g : TG} {tt : TT} {te : TE} {k : Nat} (hr : Room (k + 1) X.A) (hg : Gl X "all") (hm : X.mg "all" = none) (TB : GxR.TabB X.base X.mg c P) (hcode : X.env.code = .ref c)
    (ok : GenOk X.N X.env.scope scope own) (hN : X.N.Nodup) (hi : PI X tg iter wi) (hpg : ∀ (A : Around) (s : Shared) (H : Hp) (code : Value) (fp : List Addr) (pn : List (Addr × Obj)), Room k A → PG (gx X A s H (gev X scope s.heap.objs.size code) fp pn) tg g)
    (hpt : ∀ (A : Around) (s : Shared) (H : Hp) (code : Value) (fp : List Addr) (pn : List (Addr × Obj)), Room k A → PTs (gx X A s H (gev X scope s.heap.objs.size code) fp pn) ifs tt) (hpe : ∀ (A : Around) (s : Shared) (H : Hp) (code : Value) (fp : List Addr) (pn : List (Addr × Obj)), Room k A → PE (gx X A s H (gev X scope s.heap.objs.size code) fp pn) elt te)
    (hs : ∀ v, genFold iter X.env v = pure v := by intro _; rfl) (hb : bootBuiltins "all" = some (.builtin "all") := by decide +kernel)
    (he : starEach [gExp elt tg iter ifs scope gpos] X.env = (false, eval (gExp elt tg iter ifs scope gpos) X.env) :: starEach [] X.env := by rfl) :
    PE X (.Call (.Name "all" p) [gExp elt tg iter ifs scope gpos] [] pos) (tAllG P wi g tt te (own.map (·.2))) := by
  refine ⟨fun pins s σ H Q I h => ?_⟩
  refine wpAny_Call_Name_kw (ld_blt I hg hm hb ?_)
  refine PyProof.Rows.callWith_builtin1 ?_ he (by rfl)
  rw [he]
  show wpAny _ _ (spliced ((false, eval (gExp elt tg iter ifs scope gpos) X.env) :: backTo pos (starEach [] X.env))) _ _ s
  refine Calls.spliced_cons (gen_made hr TB hcode ok hN hi hs I h fun J H2 a s5 hR G => ?_)
  obtain ⟨W, ⟨m, w0⟩, turn⟩ := hR
  obtain ⟨it, fp, tn, s4, code, gi, go, I4, T, st, hf, haf, isg, ig5, nl5, gs5, nf, inv⟩ := G.go
  refine Calls.spliced_nil ?_
  refine call_function_tree F.kind_all F.plain_all F.entry_all (F.args_all1 _) ?_
  unfold Builtin.«all»
  refine wpAny_bind (m := oneArg "all" _) (wpAny_pure (wpAny_bind (wpAny_pyIter_gen ig5 (wpAny_pure ⟨plainId_quiet F.plain_all_loop _, ?_⟩))))
  have fr : (X.A.in1.in1.over (.compLoop (gExp elt tg iter ifs scope gpos) 0 (.ref it) .none (gev X scope s4.heap.objs.size code)) []).frames = some (gev X scope s4.heap.objs.size code :: X.stack) := by
    have e : X.A.in1.in1.frames = some X.stack := I4.ok.frames
    unfold Around.over
    dsimp only
    rw [e] <;> rfl
  have rm := over_room (e := gExp elt tg iter ifs scope gpos) (it := .ref it) (acc := .none) (cenv := gev X scope s4.heap.objs.size code) hr rfl rfl
  have J5 := inv _ fr rm.hd
  have J6 := z_gens J5 (allBare_setGen (g := gi) (x := .running) J5.bare rfl)
  refine all_loop (Z := gx X (X.A.in1.in1.over (.compLoop (gExp elt tg iter ifs scope gpos) 0 (.ref it) .none (gev X scope s4.heap.objs.size code)) []) s4 H2 (gev X scope s4.heap.objs.size code) fp [(a, go)]) (σ0 := wipe σ (own.map (·.2))) (QF := Q (.bl false)) (QT := Q (.bl true)) (gi := gi) hr.hd (by have := hr.dp; omega) ⟨go, List.mem_singleton.mpr rfl, isg⟩
    (fun H' s' J q => ⟨.bl true, H', z_back I4 hf J, rfl, q⟩) (fun ip σ' H' s' J q => ⟨.bl false, H', z_back I4 hf J, rfl, q⟩) (m + 1) s5 ⟨ig5, nl5, _, gs5, rfl, ?_⟩
  refine seg_gs (fun A Q E hq => T.self A 0 _ Q E st hq) ?_
  exact seg_gx (X := X) _ rfl ok.co T (hpg _ _ _ _ _ _ rm) (hpt _ _ _ _ _ _ rm) (hpe _ _ _ _ _ _ rm) turn (fun p hp => by rw [List.mem_singleton.mp hp]; exact haf) (fun b hb => by cases hb) m (m + 1) 0 () _ _ H2 (Nat.lt_succ_self _) trivial J6 st nf w0
end
end Hd

set_option maxHeartbeats 4000000
/-! generator expressions: sum -/
namespace Hd
open PySem PySem.Spec PyProof.Rows L2 GenW
section
variable {X Z : Cx} {pins ip : List (Addr × Obj)} {σ σ0 : L2.St} {H : Hp} {s : Shared} {a S : Addr} {gi : Nat}
theorem pinsAt_one {h : Heap} {o : Obj} (e : h.get? S = some o) : pinsAt [S] h = [(S, o)] := by
  unfold pinsAt
  rw [List.filterMap_cons, e] <;> rfl
/-- the taker's own object is another; all else is kept -/
theorem z_own {o o' : Obj} {h' : Heap} {t' : Nat} (J : Inv Z (pinsAt [S] s.heap ++ ip) σ H s) (eS : s.heap.get? S = some o) (hip : ∀ p ∈ ip, p.1 ∉ [S]) (hpn : ∀ p ∈ Z.pn, p.1 ≠ S) (hy : Z.s_0.heap.objs.size ≤ S) (kp : ∀ b u, b ≠ S → s.heap.get? b = some u → h'.get? b = some u) (ho : h'.get? S = some o') (hc : ∀ v, o'.data ≠ .cell v) :
    Inv Z (pinsAt [S] h' ++ ip) σ H { s with heap := h', toks := t' } := by
  rw [pinsAt_one eS] at J
  obtain ⟨_, p2, p3, p4, p5⟩ := J.pin (S, o) (List.mem_append_right _ (List.mem_append_left _ (List.mem_singleton.mpr rfl)))
  have J0 : Inv Z ip σ H s := J.pins_of fun p hp => J.pin p (List.mem_append_right _ (List.mem_append_right _ hp))
  have nS : ∀ b u, H b = some u → b ≠ S := fun b u e z => by
    rw [z] at e
    exact absurd (e.symm.trans p2) (by simp)
  have out : ∀ b, b ∉ [S] → b ≠ S := fun b hb z => hb (List.mem_singleton.mpr z)
  have un : Un (frs Z.stack) [S] H H s.heap h' := ⟨fun b u e _ _ hx => kp b u (out b hx) e, fun b u e _ _ hx => ⟨u.slots, kp b u (out b hx) e⟩, fun b u e n _ => n, fun b u e hx => ⟨u, kp b u (out b hx) e⟩, fun b xs e => e, fun b u v e => e, fun b ps e => ⟨#[], by rw [e]; simp⟩⟩
  have hk : HOk Z.prog Z.w H h' := fun b u e => by
    refine (J0.hok b u e).stay (fun d v hd y => kp d v ?_ y) (fun _ y => y) fun _ _ y => y
    rcases hd with z | z
    · rw [z]
      exact nS b u e
    · exact nS d _ z
  have J1 : Inv Z ip σ H { s with heap := h', toks := t' } := by
    refine Inv.call' (s' := { s with heap := h', toks := t' }) (ch := [S]) J0 rfl un hk J0.bare fun b hb => ?_
    rw [List.mem_singleton.mp hb]
    refine ⟨.inr hy, p3, fun x c e z => ?_, fun p hp z => ?_⟩
    · obtain ⟨v, ob, h1, h2⟩ := J0.cell x c e
      rw [z, eS] at h1
      cases h1
      exact p5 v h2
    · rcases List.mem_append.mp hp with q | q
      · exact hpn p q z
      · exact hip p q (List.mem_singleton.mpr z)
  rw [pinsAt_one ho]
  refine J1.pins_of fun p hp => ?_
  rcases List.mem_append.mp hp with q | q
  · rw [List.mem_singleton.mp q]
    exact ⟨ho, p2, p3, p4, hc⟩
  · exact J1.pin p (List.mem_append_right _ q)
/-- the taker holds the sum so far -/
def SumGh (S : Addr) : Shared → Int → Prop := fun s c => ∃ t n, s.heap.get? S = some { cls := .type "list", dict := none, data := .seq #[.int c t] n, slots := #[] }
def fits (i : Int) : Prop := -(2 ^ 63) ≤ i ∧ i < 2 ^ 63
/-- each item an int -/
def PSum : Int → V → Hp → (Int → Hp → Prop) → Prop := fun c y H Nx => ∃ i, y = .int i ∧ fits i ∧ fits (c + i) ∧ Nx (c + i) H
theorem sum_loop {A : Around} {QS : Int → Hp → Prop} {R : Result → Shared → Prop} (hh : A.handled = none) (hd : A.depth < recursionLimit) (hpin : ∃ go, (a, go) ∈ Z.pn ∧ ∀ h : Heap, h.get? a = some go → h.IsGen a gi) (hpn : ∀ p ∈ Z.pn, p.1 ≠ S) (hy : Z.s_0.heap.objs.size ≤ S)
    (hR : ∀ c t H s', Inv Z [] σ0 H s' → QS c H → R (.ok (.ret (.int c t))) s') :
    ∀ (n : Nat) (c : Int) (s : Shared), SumGh S s c → GSt Z (SumGh S) [S] σ0 PSum QS A.in1.in1 a gi n s → codeAny (model Z.prog Z.w) A (.builtin "sum.loop" ⟨[.ref a, .ref S, rawInt 0, rawInt 0], []⟩) R s := by
  have same : ∀ {s : Shared} {c c' : Int}, SumGh S s c → SumGh S s c' → c = c' := fun {s c c'} h g => by
    obtain ⟨t, n, e⟩ := h
    obtain ⟨t', n', e'⟩ := g
    rw [e] at e'
    injection e' with e'
    injection e' with _ _ e' _
    injection e' with e' _
    injection e' with e'
    injection e' with e' _
    injection e' with e' _
  intro n
  induction n with
  | zero =>
    intro c s gh G
    obtain ⟨t0, n0, eS⟩ := id gh
    refine codeAny_builtin F.entry_sum_loop ?_
    rw [Around.under_plainId F.plain_sum_loop _]
    show wpAny _ A.in1 (seqItems? (.ref S) >>= _) _ _ s
    refine wpAny_bind (wpAny_seqItems eS rfl ?_)
    show wpAny _ A.in1 (tryCatch (pyNext (.ref a)) _ >>= _) _ _ s
    refine wpAny_bind (wpAny_tryCatch (gen_next (A := A.in1) (fun s1 s2 c e g => by unfold SumGh at g ⊢; rw [e]; exact g) hh hd hpin G (fun c' y v ip σ H s' Nx gh' r J hip p k => ?_) (fun c' H s' gh' J q => ?_)))
    · obtain ⟨i, rfl, ⟨f1, f2⟩, ⟨f3, f4⟩, nx⟩ := p
      obtain rfl := same gh gh'
      obtain ⟨t, rfl⟩ := r
      have eS' : s'.heap.get? S = some { cls := .type "list", dict := none, data := .seq #[.int c t0] n0, slots := #[] } := (J.pin _ (List.mem_append_right _ (List.mem_append_left _ (by rw [pinsAt_one eS]; exact List.mem_singleton.mpr rfl)))).1
      have hc : ((decide (-(2 ^ 63) ≤ i) && decide (i < 2 ^ 63)) && (decide (-(2 ^ 63) ≤ c + i) && decide (c + i < 2 ^ 63))) = true := by
        simp only [Bool.and_eq_true, decide_eq_true_eq]
        exact ⟨⟨f1, f2⟩, f3, f4⟩
      show wpAny _ A.in1 (if (_ : Bool) = true then (mkInt (c + i) >>= _) else _) _ _ _
      split
      · refine wpAny_bind (wpAny_mkInt ?_)
        show wpAny _ A.in1 (updateSeq S (fun _ => #[.int (c + i) s'.toks]) >>= _) _ _ _
        refine wpAny_bind (wpAny_updateSeq eS' rfl (wpAny_pure ⟨plainId_quiet F.plain_sum_loop _, ?_⟩))
        have up := Heap.get?_update_self (h := s'.heap) (a := S) (Obj.mapSeq fun _ => #[.int (c + i) s'.toks]) eS' rfl
        have J0 : Inv Z (pinsAt [S] s'.heap ++ ip) σ H s' := by
          rw [pinsAt_one eS']
          rw [pinsAt_one eS] at J
          exact J
        have J' := z_own (t' := s'.toks + 1) J0 eS' hip hpn hy (h' := s'.heap.update S (Obj.mapSeq fun _ => #[.int (c + i) s'.toks])) (fun b u hb e => (Heap.get?_update_other _ _ (Ne.symm hb)).trans e) up (fun v z => by cases z)
        have g' : SumGh S { s' with heap := s'.heap.update S (Obj.mapSeq fun _ => #[.int (c + i) s'.toks]), toks := s'.toks + 1 } (c + i) := ⟨_, _, up⟩
        obtain ⟨m, e, G'⟩ := k _ (c + i) H J' g' nx rfl
        exact absurd e (by omega)
      · rename_i hneg
        exact absurd hc hneg
    · obtain rfl := same gh gh'
      refine wpAny_pure (hR c t0 H s' (J.pins_of fun p hp => absurd hp (by simp)) q)
  | succ n ih =>
    intro c s gh G
    obtain ⟨t0, n0, eS⟩ := id gh
    refine codeAny_builtin F.entry_sum_loop ?_
    rw [Around.under_plainId F.plain_sum_loop _]
    show wpAny _ A.in1 (seqItems? (.ref S) >>= _) _ _ s
    refine wpAny_bind (wpAny_seqItems eS rfl ?_)
    show wpAny _ A.in1 (tryCatch (pyNext (.ref a)) _ >>= _) _ _ s
    refine wpAny_bind (wpAny_tryCatch (gen_next (A := A.in1) (fun s1 s2 c e g => by unfold SumGh at g ⊢; rw [e]; exact g) hh hd hpin G (fun c' y v ip σ H s' Nx gh' r J hip p k => ?_) (fun c' H s' gh' J q => ?_)))
    · obtain ⟨i, rfl, ⟨f1, f2⟩, ⟨f3, f4⟩, nx⟩ := p
      obtain rfl := same gh gh'
      obtain ⟨t, rfl⟩ := r
      have eS' : s'.heap.get? S = some { cls := .type "list", dict := none, data := .seq #[.int c t0] n0, slots := #[] } := (J.pin _ (List.mem_append_right _ (List.mem_append_left _ (by rw [pinsAt_one eS]; exact List.mem_singleton.mpr rfl)))).1
      have hc : ((decide (-(2 ^ 63) ≤ i) && decide (i < 2 ^ 63)) && (decide (-(2 ^ 63) ≤ c + i) && decide (c + i < 2 ^ 63))) = true := by
        simp only [Bool.and_eq_true, decide_eq_true_eq]
        exact ⟨⟨f1, f2⟩, f3, f4⟩
      show wpAny _ A.in1 (if (_ : Bool) = true then (mkInt (c + i) >>= _) else _) _ _ _
      split
      · refine wpAny_bind (wpAny_mkInt ?_)
        show wpAny _ A.in1 (updateSeq S (fun _ => #[.int (c + i) s'.toks]) >>= _) _ _ _
        refine wpAny_bind (wpAny_updateSeq eS' rfl (wpAny_pure ⟨plainId_quiet F.plain_sum_loop _, ?_⟩))
        have up := Heap.get?_update_self (h := s'.heap) (a := S) (Obj.mapSeq fun _ => #[.int (c + i) s'.toks]) eS' rfl
        have J0 : Inv Z (pinsAt [S] s'.heap ++ ip) σ H s' := by
          rw [pinsAt_one eS']
          rw [pinsAt_one eS] at J
          exact J
        have J' := z_own (t' := s'.toks + 1) J0 eS' hip hpn hy (h' := s'.heap.update S (Obj.mapSeq fun _ => #[.int (c + i) s'.toks])) (fun b u hb e => (Heap.get?_update_other _ _ (Ne.symm hb)).trans e) up (fun v z => by cases z)
        have g' : SumGh S { s' with heap := s'.heap.update S (Obj.mapSeq fun _ => #[.int (c + i) s'.toks]), toks := s'.toks + 1 } (c + i) := ⟨_, _, up⟩
        obtain ⟨m, e, G'⟩ := k _ (c + i) H J' g' nx rfl
        obtain rfl : n = m := by omega
        exact ih (c + i) _ g' G'
      · rename_i hneg
        exact absurd hc hneg
    · obtain rfl := same gh gh'
      refine wpAny_pure (hR c t0 H s' (J.pins_of fun p hp => absurd hp (by simp)) q)
end
end Hd

set_option maxHeartbeats 4000000
namespace Hd
open PySem PySem.Spec PyProof.Rows L2 GenW
section
variable {X : Cx}
def tSumG (P : Addr) (wi : TI) (g : TG) (tt : TT) (te : TE) (vs : List Nat) : TE := fun σ H Q => wi σ H fun J H1 => GxR.TabG H1 P ∧ ∀ H2, GxR.Tabbed P H1 H2 → ∃ W : Int → Nat → Nat → Hp → Prop, (∃ m, W 0 0 m H2) ∧ GTurn σ vs g tt te J PSum (fun c => Q (.int c)) W
/-- the frame with the taker's new object -/
theorem z_new {Z : Cx} {σ : L2.St} {H : Hp} {s : Shared} {o : Obj} {tk : Nat} (J : Inv Z [] σ H s) (hf : (s.heap.push o).get? s.heap.objs.size = some o) (hc : ∀ v, o.data ≠ .cell v) : Inv Z (pinsAt [s.heap.objs.size] (s.heap.push o)) σ H { s with heap := s.heap.push o, toks := tk } := by
  have kp : ∀ b u, s.heap.get? b = some u → (s.heap.push o).get? b = some u := fun b u e => Heap.get?_push_of_some _ e
  have J1 : Inv Z [] σ H { s with heap := s.heap.push o, toks := tk } := Inv.call' (s' := { s with heap := s.heap.push o, toks := tk }) (ch := []) J rfl (Un.kept kp) (J.hok.kept kp) J.bare fun b hb => absurd hb (by simp)
  rw [pinsAt_one hf]
  refine J1.pins_of fun p hp => ?_
  rw [List.mem_singleton.mp hp]
  exact ⟨hf, J.hok.fresh (Nat.le_refl _), Nat.ne_of_gt J.lt, J.nofs (Nat.le_refl _), hc⟩
/-- sum(elt for tg in iter if ..), all of them ints -/
theorem pe_sumG {c P : Addr} {elt tg iter : Expr} {ifs : List Expr} {p pos gpos : Pos} {scope : Scope} {own : List (Str × Nat)} {wi : TI} {g : TG} {tt : TT} {te : TE} {k : Nat} (hr : Room (k + 1) X.A) (hg : Gl X "sum") (hm : X.mg "sum" = none) (TB : GxR.TabB X.base X.mg c P) (hcode : X.env.code = .ref c)
    (ok : GenOk X.N X.env.scope scope own) (hN : X.N.Nodup) (hi : PI X tg iter wi) (hpg : ∀ (A : Around) (s : Shared) (H : Hp) (code : Value) (fp : List Addr) (pn : List (Addr × Obj)), Room k A → PG (gx X A s H (gev X scope s.heap.objs.size code) fp pn) tg g)
    (hpt : ∀ (A : Around) (s : Shared) (H : Hp) (code : Value) (fp : List Addr) (pn : List (Addr × Obj)), Room k A → PTs (gx X A s H (gev X scope s.heap.objs.size code) fp pn) ifs tt) (hpe : ∀ (A : Around) (s : Shared) (H : Hp) (code : Value) (fp : List Addr) (pn : List (Addr × Obj)), Room k A → PE (gx X A s H (gev X scope s.heap.objs.size code) fp pn) elt te)
    (hs : ∀ v, genFold iter X.env v = pure v := by intro _; rfl) (hb : bootBuiltins "sum" = some (.builtin "sum") := by decide +kernel)
    (he : starEach [gExp elt tg iter ifs scope gpos] X.env = (false, eval (gExp elt tg iter ifs scope gpos) X.env) :: starEach [] X.env := by rfl) :
    PE X (.Call (.Name "sum" p) [gExp elt tg iter ifs scope gpos] [] pos) (tSumG P wi g tt te (own.map (·.2))) := by
  refine ⟨fun pins s σ H Q I h => ?_⟩
  refine wpAny_Call_Name_kw (ld_blt I hg hm hb ?_)
  refine PyProof.Rows.callWith_builtin1 ?_ he (by rfl)
  rw [he]
  show wpAny _ _ (spliced ((false, eval (gExp elt tg iter ifs scope gpos) X.env) :: backTo pos (starEach [] X.env))) _ _ s
  refine Calls.spliced_cons (gen_made hr TB hcode ok hN hi hs I h fun J H2 a s5 hR G => ?_)
  obtain ⟨W, ⟨m, w0⟩, turn⟩ := hR
  obtain ⟨it, fp, tn, s4, code, gi, go, I4, T, st, hf, haf, isg, ig5, nl5, gs5, nf, inv⟩ := G.go
  refine Calls.spliced_nil ?_
  refine call_function_tree F.kind_sum F.plain_sum F.entry_sum (F.args_sum1 _) ?_
  unfold Builtin.«sum»
  simp only [List.length_cons, List.length_nil]
  rw [if_neg (by decide)]
  refine wpAny_bind (wpAny_of_eq (show Builtin.Builtins.bindParams "sum" ["start"] 0 { } = pure [none] from rfl) ?_)
  refine wpAny_bind (wpAny_pyIter_gen ig5 (wpAny_bind (wpAny_mkInt (wpAny_bind (wpAny_pure ?_)))))
  simp only [List.forIn_cons, List.forIn_nil]
  refine wpAny_bind (wpAny_bind (wpAny_bind (wpAny_isInstance (T := "int") (b := false) (typeIs_int _ _ _) PySem.sub_int_str ?_)))
  simp only [Bool.false_eq_true, if_false]
  refine wpAny_pure (wpAny_bind (wpAny_bind (wpAny_isInstance (T := "int") (b := false) (typeIs_int _ _ _) PySem.sub_int_bytes ?_)))
  simp only [Bool.false_eq_true, if_false]
  refine wpAny_pure (wpAny_bind (wpAny_bind (wpAny_isInstance (T := "int") (b := false) (typeIs_int _ _ _) PySem.sub_int_bytearray ?_)))
  simp only [Bool.false_eq_true, if_false]
  refine wpAny_pure (wpAny_pure ?_)
  refine wpAny_bind (wpAny_newObj_type (wpAny_pure ⟨plainId_quiet F.plain_sum_loop _, ?_⟩))
  have fr : (X.A.in1.in1.over (.compLoop (gExp elt tg iter ifs scope gpos) 0 (.ref it) .none (gev X scope s4.heap.objs.size code)) []).frames = some (gev X scope s4.heap.objs.size code :: X.stack) := by
    have e : X.A.in1.in1.frames = some X.stack := I4.ok.frames
    unfold Around.over
    dsimp only
    rw [e] <;> rfl
  have rm := over_room (e := gExp elt tg iter ifs scope gpos) (it := .ref it) (acc := .none) (cenv := gev X scope s4.heap.objs.size code) hr rfl rfl
  have J5 := inv _ fr rm.hd
  have hl : ∀ n : Nat, ∀ t : Tok, ∀ v : Option Value, ({ cls := .type "list", dict := none, data := .seq #[.int 0 t] n, slots := #[] } : Obj).data ≠ .cell v := fun n t v z => by cases z
  -- the taker's list
  have ga : a < s5.heap.objs.size := by
    obtain ⟨o, nm, qn, e, _⟩ := ig5
    exact Heap.lt_size e
  have lt5 : ∀ b ∈ fp, b < s5.heap.objs.size := fun b hb => by
    obtain ⟨o, e, _⟩ := T.obj _ _ st b hb
    exact Heap.lt_size e
  have kp : ∀ (o : Obj) b u, s5.heap.get? b = some u → (s5.heap.push o).get? b = some u := fun o b u e => Heap.get?_push_of_some _ e
  have J6 := z_new (o := { cls := .type "list", dict := none, data := .seq #[.int 0 s5.toks] 0, slots := #[] }) (tk := s5.toks + 1) J5 (Heap.get?_push_size _ rfl) (hl _ _)
  have J7 := z_gens J6 (allBare_setGen (g := gi) (x := .running) J6.bare rfl)
  have g6 : SumGh s5.heap.objs.size { s5 with heap := s5.heap.push { cls := .type "list", dict := none, data := .seq #[.int 0 s5.toks] 0, slots := #[] }, toks := s5.toks + 1 } 0 := ⟨_, _, Heap.get?_push_size _ rfl⟩
  refine sum_loop (Z := gx X (X.A.in1.in1.over (.compLoop (gExp elt tg iter ifs scope gpos) 0 (.ref it) .none (gev X scope s4.heap.objs.size code)) []) s4 H2 (gev X scope s4.heap.objs.size code) fp [(a, go)]) (σ0 := wipe σ (own.map (·.2))) (QS := fun c => Q (.int c)) (S := s5.heap.objs.size) (gi := gi) hr.hd (by have := hr.dp; omega) ⟨go, List.mem_singleton.mpr rfl, isg⟩
    (fun p hp => by rw [List.mem_singleton.mp hp]; exact Nat.ne_of_lt ga) J5.sz (fun c t H' s' J q => ⟨.int c, H', z_back I4 hf J, ⟨t, rfl⟩, q⟩) (m + 1) 0 _ g6 ⟨ig5.keeps (kp _), nl5.keeps (kp _), _, gs5, rfl, ?_⟩
  refine seg_gs (fun A Q E hq => T.self A 0 _ Q E (T.keep _ _ _ st fun b _ o e => kp _ b o e) hq) ?_
  exact seg_gx (X := X) _ rfl ok.co T (hpg _ _ _ _ _ _ rm) (hpt _ _ _ _ _ _ rm) (hpe _ _ _ _ _ _ rm) turn (fun p hp => by rw [List.mem_singleton.mp hp]; exact haf) (fun b hb z => by rw [List.mem_singleton.mp hb] at z; exact Nat.lt_irrefl _ (lt5 _ z)) m (m + 1) 0 0 _ _ H2 (Nat.lt_succ_self _) g6 J7 (T.keep _ _ _ st fun b _ o e => kp _ b o e) nf w0
end
end Hd

set_option maxHeartbeats 4000000
/-! generator expressions: tuple -/
namespace Hd
open PySem PySem.Spec PyProof.Rows L2 GenW
abbrev lob (acc : Array Value) (n : Nat) : Obj := { cls := .type "list", dict := none, data := .seq acc n, slots := #[] }
section
variable {X Z : Cx} {pins ip : List (Addr × Obj)} {σ σ0 : L2.St} {H : Hp} {s : Shared} {a S : Addr} {gi : Nat}
/-- the taker holds what has come -/
def TupGh (S : Addr) : Shared → List V → Prop := fun s ys => ∃ acc n, s.heap.get? S = some (lob acc n) ∧ Vals ys acc.toList
def PTup : List V → V → Hp → (List V → Hp → Prop) → Prop := fun ys y H Nx => ys.length < sizeLine ∧ Nx (ys ++ [y]) H
theorem ext_loop {A : Around} {QT : List V → Hp → Prop} {R : Result → Shared → Prop} {res : Value} (hh : A.handled = none) (hd : A.depth < recursionLimit) (hpin : ∃ go, (a, go) ∈ Z.pn ∧ ∀ h : Heap, h.get? a = some go → h.IsGen a gi) (hpn : ∀ p ∈ Z.pn, p.1 ≠ S) (hy : Z.s_0.heap.objs.size ≤ S)
    (hR : ∀ ys acc n H s', Inv Z [] σ0 H s' → s'.heap.get? S = some (lob acc n) → Vals ys acc.toList → QT ys H → R (.ok (.ret res)) s') :
    ∀ (n : Nat) (s : Shared), GSt Z (TupGh S) [S] σ0 PTup QT A.in1.in1 a gi n s → codeAny (model Z.prog Z.w) A (.builtin "list.extend.loop" ⟨[.ref S, .ref a, res], []⟩) R s := by
  have gh0 : ∀ (s1 s2 : Shared) (c : List V), s2.heap = s1.heap → TupGh S s1 c → TupGh S s2 c := fun s1 s2 c e g => by
    unfold TupGh at g ⊢
    rw [e]
    exact g
  have endd : ∀ {s s' : Shared} {c : List V} {H : Hp}, TupGh S s c → Inv Z (pinsAt [S] s.heap) σ0 H s' → QT c H → R (.ok (.ret res)) s' := fun {s s' c H} gh J q => by
    obtain ⟨acc, n, e, r⟩ := gh
    rw [pinsAt_one e] at J
    exact hR c acc n H s' (J.pins_of fun p hp => absurd hp (by simp)) (J.pin _ (List.mem_append_right _ (List.mem_singleton.mpr rfl))).1 r q
  intro n
  induction n with
  | zero =>
    intro s G
    refine codeAny_builtin F.entry_extend_loop ?_
    rw [Around.under_plainId F.plain_extend_loop _]
    show wpAny _ A.in1 (pyNext (.ref a) >>= _) _ _ s
    refine wpAny_bind (gen_next (A := A.in1) gh0 hh hd hpin G (fun c y v ip σ H s' Nx gh r J hip p k => ?_) (fun c H s' gh J q => wpAny_pure (endd gh J q)))
    obtain ⟨acc, c0, eS, rv⟩ := gh
    obtain ⟨hz, nx⟩ := p
    have eS' : s'.heap.get? S = some (lob acc c0) := (J.pin _ (List.mem_append_right _ (List.mem_append_left _ (by rw [pinsAt_one eS]; exact List.mem_singleton.mpr rfl)))).1
    have hl := rv.length
    show wpAny _ A.in1 (updateSeq S (·.push v) >>= _) _ _ _
    refine wpAny_bind ?_
    refine wpAny_updateSeq eS' rfl (wpAny_pure ⟨plainId_quiet F.plain_extend_loop _, ?_⟩) (by rw [← Array.length_toList, ← hl]; exact Nat.le_of_lt hz) (by show (acc.push v).size ≤ sizeLine + 1; rw [Array.size_push, ← Array.length_toList, ← hl]; omega)
    have up := Heap.get?_update_self (h := s'.heap) (a := S) (Obj.mapSeq (·.push v)) eS' rfl
    have J0 : Inv Z (pinsAt [S] s'.heap ++ ip) σ H s' := by
      rw [pinsAt_one eS']
      rw [pinsAt_one eS] at J
      exact J
    have J' := z_own (t' := s'.toks) J0 eS' hip hpn hy (h' := s'.heap.update S (Obj.mapSeq (·.push v))) (fun b u hb e => (Heap.get?_update_other _ _ (Ne.symm hb)).trans e) up (fun v z => by cases z)
    have g' : TupGh S { s' with heap := s'.heap.update S (Obj.mapSeq (·.push v)) } (c ++ [y]) := ⟨_, _, up, by rw [Array.toList_push]; exact rv.append (.cons r .nil)⟩
    obtain ⟨m, e, G'⟩ := k _ (c ++ [y]) H J' g' nx rfl
    exact absurd e (by omega)
  | succ n ih =>
    intro s G
    refine codeAny_builtin F.entry_extend_loop ?_
    rw [Around.under_plainId F.plain_extend_loop _]
    show wpAny _ A.in1 (pyNext (.ref a) >>= _) _ _ s
    refine wpAny_bind (gen_next (A := A.in1) gh0 hh hd hpin G (fun c y v ip σ H s' Nx gh r J hip p k => ?_) (fun c H s' gh J q => wpAny_pure (endd gh J q)))
    obtain ⟨acc, c0, eS, rv⟩ := gh
    obtain ⟨hz, nx⟩ := p
    have eS' : s'.heap.get? S = some (lob acc c0) := (J.pin _ (List.mem_append_right _ (List.mem_append_left _ (by rw [pinsAt_one eS]; exact List.mem_singleton.mpr rfl)))).1
    have hl := rv.length
    show wpAny _ A.in1 (updateSeq S (·.push v) >>= _) _ _ _
    refine wpAny_bind ?_
    refine wpAny_updateSeq eS' rfl (wpAny_pure ⟨plainId_quiet F.plain_extend_loop _, ?_⟩) (by rw [← Array.length_toList, ← hl]; exact Nat.le_of_lt hz) (by show (acc.push v).size ≤ sizeLine + 1; rw [Array.size_push, ← Array.length_toList, ← hl]; omega)
    have up := Heap.get?_update_self (h := s'.heap) (a := S) (Obj.mapSeq (·.push v)) eS' rfl
    have J0 : Inv Z (pinsAt [S] s'.heap ++ ip) σ H s' := by
      rw [pinsAt_one eS']
      rw [pinsAt_one eS] at J
      exact J
    have J' := z_own (t' := s'.toks) J0 eS' hip hpn hy (h' := s'.heap.update S (Obj.mapSeq (·.push v))) (fun b u hb e => (Heap.get?_update_other _ _ (Ne.symm hb)).trans e) up (fun v z => by cases z)
    have g' : TupGh S { s' with heap := s'.heap.update S (Obj.mapSeq (·.push v)) } (c ++ [y]) := ⟨_, _, up, by rw [Array.toList_push]; exact rv.append (.cons r .nil)⟩
    obtain ⟨m, e, G'⟩ := k _ (c ++ [y]) H J' g' nx rfl
    obtain rfl : n = m := by omega
    exact ih _ G'
/-- the around of the frame, four calls deep -/
theorem over_room4 {k : Nat} {A : Around} {e : Expr} {it acc : Value} {cenv : Env} (hr : Room (k + 1) A) (hc : (Code.compLoop e 0 it acc cenv).weight = 1) (hu : (Code.compLoop e 0 it acc cenv).cUnits = 3) : Room k (A.in1.in1.in1.in1.over (.compLoop e 0 it acc cenv) []) := by
  have h1 : (A.in1.in1.in1.in1.over (.compLoop e 0 it acc cenv) []).depth = A.depth + (Code.compLoop e 0 it acc cenv).weight := rfl
  have h2 : (A.in1.in1.in1.in1.over (.compLoop e 0 it acc cenv) []).units = A.in1.in1.in1.in1.units + (Code.compLoop e 0 it acc cenv).cUnits := rfl
  have h3 : A.in1.in1.in1.in1.units = A.units + 1 + 1 + 1 + 1 := rfl
  have d := hr.dp
  have u := hr.un
  refine ⟨hr.hd, ?_, ?_⟩
  · rw [h1, hc]
    omega
  · rw [h2, hu, h3]
    omega
/-- the items, collected: start tells that the generator stands ready once the taker's list at S is there -/
theorem collect_gx {A : Around} {QT : List V → Hp → Prop} {Q : List Value → Shared → Prop} {E : Value → Shared → Prop} {n : Nat} (hh : A.handled = none) (hd : A.depth < recursionLimit) (hpin : ∃ go, (a, go) ∈ Z.pn ∧ ∀ h : Heap, h.get? a = some go → h.IsGen a gi) (hpn : ∀ p ∈ Z.pn, p.1 ≠ s.heap.objs.size) (hy : Z.s_0.heap.objs.size ≤ s.heap.objs.size)
    (isg : s.heap.IsGen a gi) (start : ∀ (h' : Heap) (m : Nat), (∀ b u, s.heap.get? b = some u → h'.get? b = some u) → h'.get? s.heap.objs.size = some (lob #[] m) → GSt Z (TupGh s.heap.objs.size) [s.heap.objs.size] σ0 PTup QT A.in1.in1 a gi n { s with heap := h' })
    (hR : ∀ ys acc m H s', Inv Z [] σ0 H s' → s'.heap.get? s.heap.objs.size = some (lob acc m) → Vals ys acc.toList → QT ys H → Q acc.toList s') : wpAny (model Z.prog Z.w) A (collect (.ref a)) Q E s := by
  have ha : a < s.heap.objs.size := by
    obtain ⟨o, nm, qn, e, _⟩ := isg
    exact Heap.lt_size e
  unfold collect
  refine wpAny_bind (wpAny_runValue (codeAny_builtin F.entry_proto_collect ?_))
  rw [Around.under_plainId F.plain_proto_collect _]
  show wpAny _ A.in1 (newList [] >>= fun l => again (.builtin "list.__iadd__" ⟨[l, .ref a], []⟩)) _ _ s
  refine wpAny_bind (wpAny_newObj_type ?_)
  refine wpAny_pure ⟨plainId_quiet F.plain_list_iadd _, codeAny_builtin F.entry_list_iadd ?_⟩
  rw [Around.under_plainId F.plain_list_iadd _]
  generalize hS : s.heap.objs.size = S at *
  have e1 : (s.heap.push (lob #[] 0)).get? S = some (lob #[] 0) := by
    rw [← hS]
    exact Heap.get?_push_size _ rfl
  have k1 : ∀ b u, s.heap.get? b = some u → (s.heap.push (lob #[] 0)).get? b = some u := fun b u e => Heap.get?_push_of_some _ e
  have ty : ∀ h : Heap, (∀ b u, s.heap.get? b = some u → h.get? b = some u) → Shared.TypeIs { s with heap := h } (.ref a) "generator" := fun h k => Heap.IsGen.typeIs (s := { s with heap := h }) (isg.keeps k)
  show wpAny _ A.in1 (Builtin.List.listExtendWith (.ref S) (.ref a) (.ref S)) _ _ { s with heap := s.heap.push (lob #[] 0) }
  unfold Builtin.List.listExtendWith
  refine wpAny_bind (wpAny_typeOf (ty _ k1) ?_)
  have h1 : Builtin.List.listSameRef (.ref S) (.ref a) = false := by simp [Builtin.List.listSameRef, Nat.ne_of_gt ha]
  have h2 : (Value.type "generator" == Value.type "list") = false := by decide
  have h3 : (Value.type "generator" == Value.type "tuple") = false := by decide
  simp only [h1, h2, h3, Bool.or_false, Bool.false_eq_true, if_false]
  refine wpAny_bind (wpAny_pyIter_gen (s := { s with heap := _ }) (isg.keeps k1) ?_)
  refine wpAny_bind (wpAny_holding ?_)
  unfold Builtin.List.listLengthHint
  refine wpAny_bind (wpAny_specialOf (ty _ k1) F.gen_no_len ?_)
  show wpAny _ A.in1 (specialOf (Value.ref a) (Str.ofString "__length_hint__") >>= _) _ _ _
  refine wpAny_bind (wpAny_specialOf (ty _ k1) F.gen_no_hint ?_)
  refine wpAny_pure ?_
  show wpAny _ A.in1 (rule "list.extend.makes-room" >>= fun _ => Builtin.List.listTouch (.ref S) >>= fun _ =>
    again (.builtin "list.extend.loop" ⟨[.ref S, .ref a, .ref S], []⟩)) _ _ _
  refine wpAny_bind (wpAny_rule ?_)
  refine wpAny_bind ?_
  show wpAny _ A.in1 (updateSeq S (·.push .none) >>= fun _ => updateSeq S (·.pop)) _ _ _
  refine wpAny_bind (wpAny_updateSeq e1 rfl ?_)
  have e2 := Heap.get?_update_self (Obj.mapSeq (·.push Value.none)) e1 rfl
  refine wpAny_updateSeq (hz := by seq_fits) e2 rfl ?_
  have e3 := Heap.get?_update_self (Obj.mapSeq (·.pop)) e2 rfl
  have far : ∀ b u, s.heap.get? b = some u → S ≠ b := fun b u e z => by
    have := Heap.lt_size e
    rw [hS, z] at this
    exact Nat.lt_irrefl _ this
  have k3 : ∀ b u, s.heap.get? b = some u → (((s.heap.push (lob #[] 0)).update S (Obj.mapSeq (·.push Value.none))).update S (Obj.mapSeq (·.pop))).get? b = some u := fun b u e =>
    (Heap.get?_update_other _ _ (far b u e)).trans ((Heap.get?_update_other _ _ (far b u e)).trans (k1 b u e))
  refine wpAny_pure ⟨plainId_quiet F.plain_extend_loop _, ?_⟩
  refine ext_loop (Z := Z) (σ0 := σ0) (QT := QT) (gi := gi) (S := S) (A := A) hh hd hpin hpn hy (fun ys acc m H s' J eS r q => ?_) n _ (start _ _ k3 e3)
  show wpAny _ A (load S >>= _) _ _ s'
  refine wpAny_bind (wpAny_load eS ?_)
  exact wpAny_pure (hR ys acc m H s' J eS r q)
end
end Hd

set_option maxHeartbeats 4000000
/-! generator expressions: tuple(..) as an expression -/
namespace Hd
open PySem PySem.Spec PyProof.Rows L2 GenW
section
variable {prog : Program} {w : World} {A : Around} {E : Value → Shared → Prop} {s : Shared} {a : Addr} {gi : Nat}
theorem tup_made {Q₁ : Value → Shared → Prop} (isg : s.heap.IsGen a gi) (hc : ∀ E', wpAny (model prog w) A.in1 (collect (.ref a)) (fun l s' => l.length ≤ sizeLine ∧ Q₁ (.ref s'.heap.objs.size) { s' with heap := s'.heap.push { cls := .type "tuple", data := .seq l.toArray } }) E' s) :
    codeAny (model prog w) A (.call (.builtin "tuple.__new__") ⟨[.type "tuple", .ref a], []⟩) (wants Q₁ E) s := by
  refine codeAny_of_tree ?_
  show wpAny _ A.in1 (do checkBuiltinCall "tuple.__new__" ⟨[.type "tuple", .ref a], []⟩; again (.builtin "tuple.__new__" ⟨[.type "tuple", .ref a], []⟩)) _ _ s
  refine wpAny_bind (wpAny_of_eq (F.newCall_tuple_1 _) (wpAny_pure ⟨plainId_quiet PySem.F.plain_tuple_new _, codeAny_builtin F.entry_tuple_new ?_⟩))
  rw [Around.under_plainId PySem.F.plain_tuple_new _]
  have hsub := sub_tuple_self
  have hinit := init_tuple_lookup
  have hmh := madeHere_tuple
  have hT : s.TypeIs (.ref a) "generator" := isg.typeIs
  have go : ∀ {Q : List Value → Shared → Prop} {E' : Value → Shared → Prop}, (∀ l s', l.length ≤ sizeLine → Q₁ (.ref s'.heap.objs.size) { s' with heap := s'.heap.push { cls := .type "tuple", data := .seq l.toArray } } → Q l s') → wpAny (model prog w) A.in1 (collect (.ref a)) Q E' s := fun {Q E'} k => wpAny_mono (hc E') (fun l s' h => k l s' h.1 h.2) fun _ _ e => e
  wp_walk using wpAny_typeOf hT, go
  intro l s' hz hq
  show wpAny _ _ (Builtin.Tuple.tupleExact l.toArray >>= fun v => ret v) _ _ _
  unfold Builtin.Tuple.tupleExact
  refine wpAny_bind (wpAny_newObj_type ?_ (by show l.toArray.size ≤ sizeLine; rw [List.size_toArray]; exact hz))
  exact wpAny_pure hq
theorem call_tup {Q : Value → Shared → Prop} (isg : s.heap.IsGen a gi) (hc : ∀ E', wpAny (model prog w) A.in1.in1 (collect (.ref a)) (fun l s' => l.length ≤ sizeLine ∧ Q (.ref s'.heap.objs.size) { s' with heap := s'.heap.push { cls := .type "tuple", data := .seq l.toArray } }) E' s) :
    wpAny (model prog w) A (call (.type "tuple") [.ref a]) Q E s := by
  refine callType_codes (Q₁ := fun obj s₁ => s₁.TypeIs obj "tuple" ∧ Q obj s₁) F.called_tuple (F.typeCall_tuple_1 _) F.entry_object_init
    (tup_made isg fun E' => wpAny_mono (hc E') (fun l s' h => ⟨h.1, ⟨_, Heap.get?_push_size _ rfl, rfl⟩, h.2⟩) fun _ _ e => e) fun obj s₁ h₁ => ?_
  exact ⟨h₁.1, F.args_object_init_2 obj _, object_init_meets F.called_tuple.init.lookup F.called_tuple.made (by decide) prog w A.in1 _ s₁ ⟨h₁.1, rfl, h₁.2⟩⟩
end
end Hd

set_option maxHeartbeats 4000000
namespace Hd
open PySem PySem.Spec PyProof.Rows L2 GenW
section
variable {X : Cx}
def tTupG (P : Addr) (wi : TI) (g : TG) (tt : TT) (te : TE) (vs : List Nat) : TE := fun σ H Q => wi σ H fun J H1 => GxR.TabG H1 P ∧ ∀ H2, GxR.Tabbed P H1 H2 → ∃ W : List V → Nat → Nat → Hp → Prop, (∃ m, W [] 0 m H2) ∧ GTurn σ vs g tt te J PTup (fun ys H => ys.length ≤ sizeLine ∧ ∀ p, H p = none → Q (.ref p) (upd H p (.tup ys))) W
theorem z_new2 {Z : Cx} {σ : L2.St} {H : Hp} {s : Shared} {h' : Heap} {o : Obj} (J : Inv Z [] σ H s) (kp : ∀ b u, s.heap.get? b = some u → h'.get? b = some u) (hf : h'.get? s.heap.objs.size = some o) (hc : ∀ v, o.data ≠ .cell v) : Inv Z (pinsAt [s.heap.objs.size] h') σ H { s with heap := h' } := by
  have J1 : Inv Z [] σ H { s with heap := h' } := Inv.call' (s' := { s with heap := h' }) (ch := []) J rfl (Un.kept kp) (J.hok.kept kp) J.bare fun b hb => absurd hb (by simp)
  rw [pinsAt_one hf]
  refine J1.pins_of fun p hp => ?_
  rw [List.mem_singleton.mp hp]
  exact ⟨hf, J.hok.fresh (Nat.le_refl _), Nat.ne_of_gt J.lt, J.nofs (Nat.le_refl _), hc⟩
/-- tuple(elt for tg in iter if ..) -/
theorem pe_tupG {c P : Addr} {elt tg iter : Expr} {ifs : List Expr} {p pos gpos : Pos} {scope : Scope} {own : List (Str × Nat)} {wi : TI} {g : TG} {tt : TT} {te : TE} {k : Nat} (hr : Room (k + 1) X.A) (hg : Gl X "tuple") (hm : X.mg "tuple" = none) (TB : GxR.TabB X.base X.mg c P) (hcode : X.env.code = .ref c)
    (ok : GenOk X.N X.env.scope scope own) (hN : X.N.Nodup) (hi : PI X tg iter wi) (hpg : ∀ (A : Around) (s : Shared) (H : Hp) (code : Value) (fp : List Addr) (pn : List (Addr × Obj)), Room k A → PG (gx X A s H (gev X scope s.heap.objs.size code) fp pn) tg g)
    (hpt : ∀ (A : Around) (s : Shared) (H : Hp) (code : Value) (fp : List Addr) (pn : List (Addr × Obj)), Room k A → PTs (gx X A s H (gev X scope s.heap.objs.size code) fp pn) ifs tt) (hpe : ∀ (A : Around) (s : Shared) (H : Hp) (code : Value) (fp : List Addr) (pn : List (Addr × Obj)), Room k A → PE (gx X A s H (gev X scope s.heap.objs.size code) fp pn) elt te)
    (hs : ∀ v, genFold iter X.env v = pure v := by intro _; rfl) (hb : bootBuiltins "tuple" = some (.type "tuple") := by decide +kernel)
    (he : starEach [gExp elt tg iter ifs scope gpos] X.env = (false, eval (gExp elt tg iter ifs scope gpos) X.env) :: starEach [] X.env := by rfl) :
    PE X (.Call (.Name "tuple" p) [gExp elt tg iter ifs scope gpos] [] pos) (tTupG P wi g tt te (own.map (·.2))) := by
  refine ⟨fun pins s σ H Q I h => ?_⟩
  refine wpAny_Call_Name_kw (ld_blt I hg hm hb ?_)
  refine PyProof.Rows.callWith_type1 ?_ he (by rfl)
  rw [he]
  show wpAny _ _ (spliced ((false, eval (gExp elt tg iter ifs scope gpos) X.env) :: backTo pos (starEach [] X.env))) _ _ s
  refine Calls.spliced_cons (gen_made hr TB hcode ok hN hi hs I h fun J H2 a s5 hR G => ?_)
  obtain ⟨W, ⟨m, w0⟩, turn⟩ := hR
  obtain ⟨it, fp, tn, s4, code, gi, go, I4, T, st, hf, haf, isg, ig5, nl5, gs5, nf, inv⟩ := G.go
  refine Calls.spliced_nil ?_
  have fr : (X.A.in1.in1.in1.in1.over (.compLoop (gExp elt tg iter ifs scope gpos) 0 (.ref it) .none (gev X scope s4.heap.objs.size code)) []).frames = some (gev X scope s4.heap.objs.size code :: X.stack) := by
    have e : X.A.in1.in1.in1.in1.frames = some X.stack := I4.ok.frames
    unfold Around.over
    dsimp only
    rw [e] <;> rfl
  have rm := over_room4 (e := gExp elt tg iter ifs scope gpos) (it := .ref it) (acc := .none) (cenv := gev X scope s4.heap.objs.size code) hr rfl rfl
  have J5 := inv _ fr rm.hd
  have ga : a < s5.heap.objs.size := by
    obtain ⟨o, nm, qn, e, _⟩ := ig5
    exact Heap.lt_size e
  have lt5 : ∀ b ∈ fp, b < s5.heap.objs.size := fun b hb => by
    obtain ⟨o, e, _⟩ := T.obj _ _ st b hb
    exact Heap.lt_size e
  refine call_tup ig5 fun E' => ?_
  refine collect_gx (Z := gx X (X.A.in1.in1.in1.in1.over (.compLoop (gExp elt tg iter ifs scope gpos) 0 (.ref it) .none (gev X scope s4.heap.objs.size code)) []) s4 H2 (gev X scope s4.heap.objs.size code) fp [(a, go)]) (A := X.A.in1.in1) (σ0 := wipe σ (own.map (·.2))) (QT := fun ys H => ys.length ≤ sizeLine ∧ ∀ p, H p = none → Q (.ref p) (upd H p (.tup ys))) (gi := gi) (n := m + 1) hr.hd (by have := hr.dp; show X.A.depth < _; omega) ⟨go, List.mem_singleton.mpr rfl, isg⟩
    (fun p hp => by rw [List.mem_singleton.mp hp]; exact Nat.ne_of_lt ga) J5.sz ig5 (fun h' mm kp eS => ?_) (fun ys acc mm H' s' J _ r q => ?_)
  · have J6 := z_new2 J5 kp eS (fun v z => by cases z)
    have J7 := z_gens J6 (allBare_setGen (g := gi) (x := .running) J6.bare rfl)
    have g6 : TupGh s5.heap.objs.size { s5 with heap := h' } [] := ⟨_, _, eS, .nil⟩
    refine ⟨ig5.keeps kp, nl5.keeps kp, _, gs5, rfl, ?_⟩
    refine seg_gs (fun A Q E hq => T.self A 0 _ Q E (T.keep _ _ _ st fun b _ o e => kp b o e) hq) ?_
    exact seg_gx (X := X) _ rfl ok.co T (hpg _ _ _ _ _ _ rm) (hpt _ _ _ _ _ _ rm) (hpe _ _ _ _ _ _ rm) turn (fun p hp => by rw [List.mem_singleton.mp hp]; exact haf) (fun b hb z => by rw [List.mem_singleton.mp hb] at z; exact Nat.lt_irrefl _ (lt5 _ z)) m (m + 1) 0 [] _ _ H2 (Nat.lt_succ_self _) g6 J7 (T.keep _ _ _ st fun b _ o e => kp b o e) nf w0
  · have I6 := z_back I4 hf J
    obtain ⟨hz, hq⟩ := q
    refine ⟨by rw [← r.length]; exact hz, .ref s'.heap.objs.size, upd H' s'.heap.objs.size (.tup ys), I6.laid (t' := s'.toks) (fun b u e => Heap.get?_push_of_some _ e) (Nat.le_refl _) ⟨hz, acc.toList, r, ⟨_, Heap.get?_push_size _ rfl, rfl, _, rfl⟩⟩, rfl, hq _ (I6.hok.fresh (Nat.le_refl _))⟩
end
end Hd

set_option maxHeartbeats 4000000
namespace Hd
open PySem PySem.Spec PyProof.Rows L2
/-- the turns over a tuple -/
theorem gt_tup {C : Type} {K : PySem.W.Frag} {a : Addr} {xs : List V} {σ : L2.St} {vs : List Nat} {g : TG} {tt : TT} {te : TE} {P : C → V → Hp → (C → Hp → Prop) → Prop} {Z0 : C → Hp → Prop} (Pv : C → Nat → Hp → Prop) (hl : ∀ c i H, i ≤ xs.length → Pv c i H → SqT K H a xs)
    (hs : ∀ c i x H, xs[i]? = some x → Pv c i H → g x (wipe σ vs) H fun σ2 H2 => wipe σ2 vs = wipe σ vs ∧ tt σ2 H2 fun b H3 => if b = true then te σ2 H3 fun y H4 => P c y H4 (fun c' H' => Pv c' (i + 1) H') else Pv c (i + 1) H3) (hd : ∀ c H, Pv c xs.length H → Z0 c H) {c0 : C} {H0 : Hp} (h0 : Pv c0 0 H0) :
    ∃ W : C → Nat → Nat → Hp → Prop, (∃ m, W c0 0 m H0) ∧ GTurn σ vs g tt te (Itt K a) P Z0 W := by
  refine ⟨fun c i m H => m = xs.length - i ∧ i ≤ xs.length ∧ Pv c i H, ⟨xs.length, by simp, Nat.zero_le _, h0⟩, ?_⟩
  rintro c i m H ⟨em, hi, p⟩
  have q := hl c i H hi p
  by_cases lt : i < xs.length
  · refine .inr ⟨⟨xs, xs[i], q, List.getElem?_eq_getElem lt⟩, fun c' H' => Pv c' (i + 1) H', fun c' H' p' => ⟨m - 1, by omega, by omega, lt, p'⟩, ?_⟩
    rintro x H' ⟨rfl, at_⟩
    exact hs c i x _ (at_ xs q) p
  · have e : i = xs.length := by omega
    subst e
    exact .inl ⟨⟨xs, q, Nat.le_refl _⟩, hd c H p⟩
end Hd

set_option maxHeartbeats 4000000
/-! generator expressions of two clauses -/
namespace Hd
open PySem PySem.Spec PyProof.Rows L2 GenW
abbrev gExp2 (elt tg iter tg2 iter2 : Expr) (ifs ifs2 : List Expr) (scope : Scope) (pos : Pos) : Expr := .GeneratorExp elt [⟨tg, iter, ifs, 0⟩, ⟨tg2, iter2, ifs2, 0⟩] scope pos
section
variable {elt tg iter tg2 iter2 : Expr} {ifs ifs2 : List Expr} {scope : Scope} {pos : Pos}
theorem turn_in (it acc : Value) (env : Env) : compTurn (gExp2 elt tg iter tg2 iter2 ifs ifs2 scope pos) 1 it acc env = (do
      standAt iter2.pos
      match ← pyNext it with
      | none => pure (.done .next)
      | some v =>
        letOwnedTupleGo tg2 it v
        assign tg2 env v
        let mut go := true
        for q in ifs2 do
          if go then go ← isTrue q env (eval q env)
        if go then
          (do let z ← eval elt env; standAt elt.pos; let _ ← yieldOut env z)
        again (.compLoop (gExp2 elt tg iter tg2 iter2 ifs ifs2 scope pos) 1 it acc env)) := by rfl
theorem turn_out (it acc : Value) (env : Env) : compTurn (gExp2 elt tg iter tg2 iter2 ifs ifs2 scope pos) 0 it acc env = (do
      standAt iter.pos
      match ← pyNext it with
      | none => pure (.done .next)
      | some v =>
        letOwnedTupleGo tg it v
        assign tg env v
        let mut go := true
        for q in ifs do
          if go then go ← isTrue q env (eval q env)
        if go then
          let x ← eval iter2 env
          standAt iter2.pos
          let x ← foldedSetIterable iter2 env x
          let _ ← runOwn (.compStart (gExp2 elt tg iter tg2 iter2 ifs ifs2 scope pos) 1 (← holding [x] (pyIter x)) acc env) env
        again (.compLoop (gExp2 elt tg iter tg2 iter2 ifs ifs2 scope pos) 0 it acc env)) := by rfl
end
section
variable {C : Type} {Gh : Shared → C → Prop} {Ss : List Addr} {Z : Cx} {B : Around} {cenv : Env} {elt tg iter tg2 iter2 : Expr} {ifs ifs2 : List Expr} {scope : Scope} {pos : Pos} {it2 : Addr} {fs : List Frame} {R : GenEnd} {P : C → V → Hp → (C → Hp → Prop) → Prop} {g : TG} {tt : TT} {te : TE} {J : It} {fp : List Addr} {tn : Nat → Heap → Prop} {σ0 : L2.St} {vs : List Nat} {ip1 : List (Addr × Obj)} {W : C → Nat → Nat → Hp → Prop} {Z2 : C → Nat → Hp → Prop}
/-- one turn of the inner loop; at its end the measure is told on -/
def GTurn2 {C : Type} (σ : L2.St) (vs : List Nat) (g : TG) (tt : TT) (te : TE) (J : It) (P : C → V → Hp → (C → Hp → Prop) → Prop) (Z2 : C → Nat → Hp → Prop) (W : C → Nat → Nat → Hp → Prop) : Prop := ∀ c i m H, W c i m H →
  (J.stop i H ∧ Z2 c m H) ∨ (J.go i H ∧ ∃ Nx : C → Hp → Prop, (∀ c' H', Nx c' H' → ∃ m', m' < m ∧ W c' (i + 1) m' H') ∧ ∀ x H', J.yld i H x H' → g x (wipe σ vs) H' fun σ2 H2 => wipe σ2 vs = wipe σ vs ∧ tt σ2 H2 fun b H3 => if b = true then te σ2 H3 fun y H4 => P c y H4 Nx else Nx c H3)
theorem seg_in (hA : B.over (.compLoop (gExp2 elt tg iter tg2 iter2 ifs ifs2 scope pos) 1 (.ref it2) .none cenv) fs = Z.A) (hfs : splitAtGen fs = none) (hfg : fs.any Frame.guarded = false) (hp4 : Z.env = cenv) (hp5 : Z.calm = true) (hp8 : Z.xe = fun _ _ => False) (hco : cenv.scope.isCoroutine = false)
    (T : Turn Z.prog Z.w Z.K tg2 J fp it2 tn) (hfp : ∀ (H : Hp) (hp : Heap), (∀ b ∈ fp, H b = none) → ∀ b ∈ fp, FpOk Z (pinsAt Ss hp ++ ip1) H b) (hSs : ∀ p ∈ ip1, p.1 ∉ Ss) (hSf : ∀ b ∈ fp, b ∉ Ss) (pg : PG Z tg2 g) (pt : PTs Z ifs2 tt) (pe : PE Z elt te) (turn : GTurn2 σ0 vs g tt te J P Z2 W)
    (tail : ∀ (n : Nat) (s₀ s : Shared) (c : C) (m : Nat) (H : Hp), m < n → Gh s₀ c → Inv Z (pinsAt Ss s₀.heap ++ ip1) (wipe σ0 vs) H s → Z2 c m H → Seg (model Z.prog Z.w) B R (GYld Z Gh Ss P) n s₀ (.compLoop (gExp2 elt tg iter tg2 iter2 ifs ifs2 scope pos) 1 (.ref it2) .none cenv) (leafOf (.ok .next)) fs s) :
    ∀ (m n i : Nat) (c : C) (s₀ s : Shared) (H : Hp), m < n → Gh s₀ c → Inv Z (pinsAt Ss s₀.heap ++ ip1) (wipe σ0 vs) H s → tn i s.heap → (∀ b ∈ fp, H b = none) → W c i m H →
      Seg (model Z.prog Z.w) B R (GYld Z Gh Ss P) n s₀ (.compLoop (gExp2 elt tg iter tg2 iter2 ifs ifs2 scope pos) 1 (.ref it2) .none cenv) ((model Z.prog Z.w).den (.compLoop (gExp2 elt tg iter tg2 iter2 ifs ifs2 scope pos) 1 (.ref it2) .none cenv)) fs s := by
  intro m
  induction m using Nat.strongRecOn with
  | _ m ih =>
    intro n i c s₀ s H hmn gh I st nf w
    show Seg _ B _ _ n s₀ _ ((compTurn (gExp2 elt tg iter tg2 iter2 ifs ifs2 scope pos) 1 (.ref it2) .none cenv).onRaise _) fs s
    rw [turn_in, Sem.onRaise_eq_wrap]
    refine seg_bind_wrap (wpAny_standAt ?_)
    rcases turn c i m H w with ⟨stop, hz⟩ | ⟨go, Nx, hNx, step⟩
    · have td := T.done Z rfl rfl rfl hp5 i _ s _ H (fun _ _ => False) I (hfp H _ nf) st stop
      rw [← hA] at td
      refine seg_bind_wrap (wpAny_mono td (fun r s6 hr => ?_) fun _ _ e => e.elim)
      obtain ⟨rfl, I6⟩ := hr
      exact tail n s₀ s6 c m H hmn gh I6 hz
    · have ti := T.item Z rfl rfl rfl hp5 i _ s _ H (fun _ _ => False) I (hfp H _ nf) st go
      rw [← hA] at ti
      refine seg_bind_wrap (wpAny_mono ti (fun r s6 hr => ?_) fun _ _ e => e.elim)
      obtain ⟨u, rfl, h6⟩ := hr
      refine seg_bind_wrap (wpAny_mono h6 (fun _ s7 h7 => ?_) fun _ _ e => e.elim)
      obtain ⟨x, H7, I7, r7, y7, st7, n7⟩ := h7
      have I7' := I7.pinned (hfp H7 _ n7) (T.obj _ _ st7)
      have go8 := pg.run _ s7 _ H7 x u _ I7' r7 (step x H7 y7)
      rw [hp4, hp8, ← hA] at go8
      refine seg_bind_wrap (wpAny_mono go8 (fun _ s8 h8 => ?_) fun _ _ e => e.elim)
      obtain ⟨σ8, H8, I8, hw8, q8⟩ := h8
      have go9 := pt.run _ s8 σ8 H8 _ I8 q8
      rw [hp4, hp8, ← hA] at go9
      refine seg_bind_wrap (wpAny_mono go9 (fun b s9 h9 => ?_) fun _ _ e => e.elim)
      obtain ⟨H9, I9, q9⟩ := h9
      have fin : ∀ {s₀' s' : Shared} {c' : C} {H' : Hp} {n' : Nat}, m ≤ n' → Gh s₀' c' → Inv Z (pinsAt Ss s₀'.heap ++ (ip1 ++ pinsAt fp s7.heap)) σ8 H' s' → Nx c' H' → Seg (model Z.prog Z.w) B R (GYld Z Gh Ss P) n' s₀' (.compLoop (gExp2 elt tg iter tg2 iter2 ifs ifs2 scope pos) 1 (.ref it2) .none cenv) (.pure (.again (.compLoop (gExp2 elt tg iter tg2 iter2 ifs ifs2 scope pos) 1 (.ref it2) .none cenv))) fs s' := fun {s₀' s' c' H' n'} hm gh' I' nx => by
        obtain ⟨m', hm', w'⟩ := hNx c' H' nx
        rw [← List.append_assoc] at I'
        have pin' : ∀ b ∈ fp, ∀ o, s7.heap.get? b = some o → s'.heap.get? b = some o ∧ H' b = none := fun b hb o e =>
          let z := I'.pin (b, o) (List.mem_append_right _ (List.mem_append_right _ (mem_pinsAt hb e)))
          ⟨z.1, z.2.1⟩
        have hl : (wipe σ0 vs).length = σ8.length := by rw [← hw8, wipe_length]
        refine seg_again rfl (ih m' hm' n' (i + 1) c' s₀' s' H' (by omega) gh' ((I'.unpinned (pins := pinsAt Ss s₀'.heap ++ ip1)).weak hl (fun j v e => ?_)) (T.keep _ _ _ st7 fun b hb o e => (pin' b hb o e).1) (fun b hb => ?_) w')
        · rw [← hw8] at e
          exact (wipe_some e).1
        · obtain ⟨o, e, _⟩ := T.obj _ _ st7 b hb
          exact (pin' b hb o e).2
      cases b with
      | false =>
        simp only [Bool.false_eq_true, if_false] at q9 ⊢
        rw [List.append_assoc] at I9
        exact fin (Nat.le_of_lt hmn) gh I9 q9
      | true =>
        simp only [if_true] at q9 ⊢
        have plain : ∀ v, yieldOut cenv v = yieldValue v := fun v => by
          unfold yieldOut
          rw [hco, if_neg (by decide)]
        simp only [plain]
        rw [Sem.bind_eq_wrap', Sem.bind_eq_wrap', Sem.wrap_wrap, Sem.wrap_wrap]
        have go10 := pe.run _ s9 σ8 H9 _ I9 q9
        rw [hp4, hp8, ← hA] at go10
        refine seg_wrap (wpAny_mono go10 (fun v s10 h10 => ?_) fun _ _ e => e.elim)
        obtain ⟨y, H10, I10, r10, q10⟩ := h10
        rw [List.append_assoc] at I10
        obtain ⟨n', rfl⟩ : ∃ n', n = n' + 1 := ⟨n - 1, by omega⟩
        refine seg_at (seg_yield hfs rfl hfg ⟨c, y, σ8, H10, _, Nx, gh, r10, I10, fun p hp => ?_, q10, fun s' c' H' I' gh' nx => fin (by omega) gh' I' nx⟩)
        rcases List.mem_append.mp hp with q | q
        · exact hSs p q
        · exact hSf _ (of_pinsAt q).1
end
end Hd

set_option maxHeartbeats 4000000
namespace Hd
open PySem PySem.Spec PyProof.Rows L2 GenW
section
variable {C : Type} {Gh : Shared → C → Prop} {Ss : List Addr} {X : Cx} {B : Around} {s0 : Shared} {H0 : Hp} {cenv : Env} {fp : List Addr} {pn : List (Addr × Obj)} {elt tg iter tg2 iter2 : Expr} {ifs ifs2 : List Expr} {scope : Scope} {pos : Pos} {it : Addr} {σ0 : L2.St} {vs vs2 : List Nat} {g g2 : TG} {tt tt2 : TT} {te : TE} {J : It} {wi2 : TI} {tn : Nat → Heap → Prop} {P : C → V → Hp → (C → Hp → Prop) → Prop} {Z0 : C → Hp → Prop} {W : C → Nat → Nat → Hp → Prop}
/-- one turn of the outer loop -/
def GTurnO {C : Type} (σ : L2.St) (vs : List Nat) (g : TG) (tt : TT) (wi2 : TI) (vs2 : List Nat) (g2 : TG) (tt2 : TT) (te : TE) (J : It) (P : C → V → Hp → (C → Hp → Prop) → Prop) (Z0 : C → Hp → Prop) (W : C → Nat → Nat → Hp → Prop) : Prop := ∀ c i m H, W c i m H →
  (J.stop i H ∧ Z0 c H) ∨ (J.go i H ∧ ∀ x H', J.yld i H x H' → g x (wipe σ vs) H' fun σ2 H2 => wipe σ2 vs = wipe σ vs ∧ tt σ2 H2 fun b H3 => if b = true then wi2 σ2 H3 fun J2 H4 => ∃ W2 : C → Nat → Nat → Hp → Prop, (∃ m', m' < m ∧ W2 c 0 m' H4) ∧ GTurn2 σ2 vs2 g2 tt2 te J2 P (fun c' m' H' => m' < m ∧ W c' (i + 1) m' H') W2 else ∃ m', m' < m ∧ W c (i + 1) m' H3)
theorem seg_out (Z : Cx) (hZ : Z = gx X (B.over (.compLoop (gExp2 elt tg iter tg2 iter2 ifs ifs2 scope pos) 0 (.ref it) .none cenv) []) s0 H0 cenv fp pn) (hco : cenv.scope.isCoroutine = false) (hs2 : ∀ x, foldedSetIterable iter2 cenv x = pure x) (T : Turn X.prog X.w X.K tg J fp it tn) (pg : PG Z tg g) (pt : PTs Z ifs tt) (pi2 : PI Z tg2 iter2 wi2) (pg2 : PG Z tg2 g2) (pt2 : PTs Z ifs2 tt2) (pe : PE Z elt te)
    (turn : GTurnO σ0 vs g tt wi2 vs2 g2 tt2 te J P Z0 W) (hpn : ∀ p ∈ pn, p.1 ∉ fp) (hSs : ∀ b ∈ Ss, b ∉ fp) (hGS : ∀ s c, Gh s c → ∀ b ∈ Ss, ∃ o, s.heap.get? b = some o) (hvs : ∀ σ : L2.St, wipe (wipe σ vs2) vs = wipe σ vs) :
    ∀ (m n i : Nat) (c : C) (s₀ s : Shared) (H : Hp), m < n → Gh s₀ c → Inv Z (pinsAt Ss s₀.heap) (wipe σ0 vs) H s → tn i s.heap → (∀ b ∈ fp, H b = none) → W c i m H →
      Seg (model Z.prog Z.w) B (GEnd Z Gh Ss (wipe σ0 vs) Z0) (GYld Z Gh Ss P) n s₀ (.compLoop (gExp2 elt tg iter tg2 iter2 ifs ifs2 scope pos) 0 (.ref it) .none cenv) ((model Z.prog Z.w).den (.compLoop (gExp2 elt tg iter tg2 iter2 ifs ifs2 scope pos) 0 (.ref it) .none cenv)) [] s := by
  subst hZ
  have stat : ∀ {hp : Heap} {σ' : L2.St} {H' : Hp} {s' : Shared}, Inv (gx X (B.over (.compLoop (gExp2 elt tg iter tg2 iter2 ifs ifs2 scope pos) 0 (.ref it) .none cenv) []) s0 H0 cenv fp pn) (pinsAt Ss hp) σ' H' s' → (∀ b ∈ fp, H' b = none) → ∀ b ∈ fp, FpOk (gx X (B.over (.compLoop (gExp2 elt tg iter tg2 iter2 ifs ifs2 scope pos) 0 (.ref it) .none cenv) []) s0 H0 cenv fp pn) (pinsAt Ss hp) H' b := fun {hp σ' H' s'} I' hn b hb => by
    refine ⟨hn b hb, (I'.ok.exf b hb).1, I'.ok.exfs b hb, .inl hb, fun x c e => (I'.ok.exf b hb).2 x c e, fun p hq z => ?_⟩
    rcases List.mem_append.mp hq with q | q
    · exact hpn p q (by rw [z]; exact hb)
    · exact hSs p.1 (of_pinsAt q).1 (by rw [z]; exact hb)
  have T' : Turn (gx X (B.over (.compLoop (gExp2 elt tg iter tg2 iter2 ifs ifs2 scope pos) 0 (.ref it) .none cenv) []) s0 H0 cenv fp pn).prog (gx X (B.over (.compLoop (gExp2 elt tg iter tg2 iter2 ifs ifs2 scope pos) 0 (.ref it) .none cenv) []) s0 H0 cenv fp pn).w (gx X (B.over (.compLoop (gExp2 elt tg iter tg2 iter2 ifs ifs2 scope pos) 0 (.ref it) .none cenv) []) s0 H0 cenv fp pn).K tg J fp it tn := T
  clear T
  generalize hZ : gx X (B.over (.compLoop (gExp2 elt tg iter tg2 iter2 ifs ifs2 scope pos) 0 (.ref it) .none cenv) []) s0 H0 cenv fp pn = Z at *
  have hAo : B.over (.compLoop (gExp2 elt tg iter tg2 iter2 ifs ifs2 scope pos) 0 (.ref it) .none cenv) [] = Z.A := by rw [← hZ] <;> rfl
  have hp4 : Z.env = cenv := by rw [← hZ] <;> rfl
  have hp5 : Z.calm = true := by rw [← hZ] <;> rfl
  have hp8 : Z.xe = fun _ _ => False := by rw [← hZ] <;> rfl
  intro m
  induction m using Nat.strongRecOn with
  | _ m ih =>
    intro n i c s₀ s H hmn gh I st nf w
    show Seg _ B _ _ n s₀ _ ((compTurn (gExp2 elt tg iter tg2 iter2 ifs ifs2 scope pos) 0 (.ref it) .none cenv).onRaise _) [] s
    rw [turn_out, Sem.onRaise_eq_wrap]
    refine seg_bind_wrap (wpAny_standAt ?_)
    rcases turn c i m H w with ⟨stop, hz⟩ | ⟨go, step⟩
    · have td := T'.done Z rfl rfl rfl hp5 i _ s _ H (fun _ _ => False) I (stat I nf) st stop
      rw [← hAo] at td
      refine seg_bind_wrap (wpAny_mono td (fun r s6 hr => ?_) fun _ _ e => e.elim)
      obtain ⟨rfl, I6⟩ := hr
      exact seg_end (.ok .next) (.inl ⟨.inr rfl, c, H, gh, I6, hz⟩)
    · have ti := T'.item Z rfl rfl rfl hp5 i _ s _ H (fun _ _ => False) I (stat I nf) st go
      rw [← hAo] at ti
      refine seg_bind_wrap (wpAny_mono ti (fun r s6 hr => ?_) fun _ _ e => e.elim)
      obtain ⟨u, rfl, h6⟩ := hr
      refine seg_bind_wrap (wpAny_mono h6 (fun _ s7 h7 => ?_) fun _ _ e => e.elim)
      obtain ⟨x, H7, I7, r7, y7, st7, n7⟩ := h7
      have I7' := I7.pinned (stat I7 n7) (T'.obj _ _ st7)
      have go8 := pg.run _ s7 _ H7 x u _ I7' r7 (step x H7 y7)
      rw [hp4, hp8, ← hAo] at go8
      refine seg_bind_wrap (wpAny_mono go8 (fun _ s8 h8 => ?_) fun _ _ e => e.elim)
      obtain ⟨σ8, H8, I8, hw8, q8⟩ := h8
      have go9 := pt.run _ s8 σ8 H8 _ I8 q8
      rw [hp4, hp8, ← hAo] at go9
      refine seg_bind_wrap (wpAny_mono go9 (fun b s9 h9 => ?_) fun _ _ e => e.elim)
      obtain ⟨H9, I9, q9⟩ := h9
      have fin : ∀ {s₀' s' : Shared} {c' : C} {H' : Hp} {n' m' : Nat} {σ' : L2.St}, m' < m → m' < n' → wipe σ' vs = wipe σ0 vs → Gh s₀' c' → Inv Z (pinsAt Ss s₀'.heap ++ pinsAt fp s7.heap) σ' H' s' → W c' (i + 1) m' H' → Seg (model Z.prog Z.w) B (GEnd Z Gh Ss (wipe σ0 vs) Z0) (GYld Z Gh Ss P) n' s₀' (.compLoop (gExp2 elt tg iter tg2 iter2 ifs ifs2 scope pos) 0 (.ref it) .none cenv) (.pure (.again (.compLoop (gExp2 elt tg iter tg2 iter2 ifs ifs2 scope pos) 0 (.ref it) .none cenv))) [] s' := fun {s₀' s' c' H' n' m' σ'} hm hn' hw' gh' I' w' => by
        have pin' : ∀ b ∈ fp, ∀ o, s7.heap.get? b = some o → s'.heap.get? b = some o ∧ H' b = none := fun b hb o e =>
          let z := I'.pin (b, o) (List.mem_append_right _ (List.mem_append_right _ (mem_pinsAt hb e)))
          ⟨z.1, z.2.1⟩
        have hl : (wipe σ0 vs).length = σ'.length := by rw [← hw', wipe_length]
        refine seg_again rfl (ih m' hm n' (i + 1) c' s₀' s' H' hn' gh' ((I'.unpinned (pins := pinsAt Ss s₀'.heap)).weak hl (fun j v e => ?_)) (T'.keep _ _ _ st7 fun b hb o e => (pin' b hb o e).1) (fun b hb => ?_) w')
        · rw [← hw'] at e
          exact (wipe_some e).1
        · obtain ⟨o, e, _⟩ := T'.obj _ _ st7 b hb
          exact (pin' b hb o e).2
      cases b with
      | false =>
        simp only [Bool.false_eq_true, if_false] at q9 ⊢
        obtain ⟨m', hm', w'⟩ := q9
        exact fin hm' (by omega) hw8 gh I9 w'
      | true =>
        simp only [if_true] at q9 ⊢
        have go10 := pi2.run _ s9 σ8 H9 _ I9 q9
        rw [hp4, hp8, ← hAo] at go10
        refine seg_bind_wrap (wpAny_mono go10 (fun xv s10 h10 => ?_) fun _ _ e => e.elim)
        refine seg_bind_wrap (wpAny_standAt ?_)
        refine seg_bind_wrap (wpAny_of_eq (hs2 xv) ?_)
        refine seg_bind_wrap (wpAny_holding (wpAny_mono h10 (fun itv s11 h11 => ?_) fun _ _ e => e.elim))
        obtain ⟨it2, fp2, tn2, J2, H11, rfl, I11, T2, st11, f11, W2, ⟨m2, hm2, w2⟩, turn2⟩ := h11
        refine seg_call fun p => ?_
        have out2 : ∀ b ∈ fp2, b ∉ Ss := fun b hb hS => by
          obtain ⟨o, e⟩ := hGS s₀ c gh b hS
          exact (f11 b hb).2.2.2.2.2 (b, o) (List.mem_append_right _ (List.mem_append_left _ (mem_pinsAt hS e))) rfl
        have ok2 : ∀ (H : Hp) (hp : Heap), (∀ b ∈ fp2, H b = none) → ∀ b ∈ fp2, FpOk Z (pinsAt Ss hp ++ pinsAt fp s7.heap) H b := fun H hp hn b hb => by
          obtain ⟨_, a2, a3, a4, a5, a6⟩ := f11 b hb
          refine ⟨hn b hb, a2, a3, a4, a5, fun p hq z => ?_⟩
          rcases List.mem_append.mp hq with q | q
          · exact a6 p (List.mem_append_left _ q) z
          · rcases List.mem_append.mp q with q | q
            · exact out2 b hb (by rw [← z]; exact (of_pinsAt q).1)
            · exact a6 p (List.mem_append_right _ (List.mem_append_right _ q)) z
        have I12 : Inv Z (pinsAt Ss s₀.heap ++ pinsAt fp s7.heap) (wipe σ8 vs2) H11 s11 := I11.weak (wipe_length _ _) fun j v e => (wipe_some e).1
        show Seg _ B _ _ n s₀ _ ((compStart (gExp2 elt tg iter tg2 iter2 ifs ifs2 scope pos) 1 (.ref it2) .none cenv).onRaise _) _ s11
        unfold compStart
        rw [Sem.onRaise_eq_wrap]
        show Seg _ B _ _ n s₀ _ ((ask >>= _).wrap _ _ _ _) _ s11
        refine seg_bind_wrap (wpAny_askSetting ?_)
        split
        · exact seg_again rfl (seg_in (Z := Z) (B := B) (Gh := Gh) (Ss := Ss) (elt := elt) (tg := tg) (iter := iter) (tg2 := tg2) (iter2 := iter2) (ifs := ifs) (ifs2 := ifs2) (scope := scope) (pos := pos) (it2 := it2) (cenv := cenv) (R := GEnd Z Gh Ss (wipe σ0 vs) Z0) (P := P) (σ0 := σ8) (vs := vs2) (ip1 := pinsAt fp s7.heap) (fp := fp2) (Z2 := fun c' m' H' => m' < m ∧ W c' (i + 1) m' H') ((over_loop rfl rfl).trans hAo) rfl rfl hp4 hp5 hp8 hco T2 ok2 (fun p hp hm => hSs _ hm (of_pinsAt hp).1) out2 pg2 pt2 pe turn2
          (fun n' s₀' s' c' m' H' hn' gh' J' z => seg_leaf (.ok .next) (fin z.1 hn' ((hvs σ8).trans hw8) gh' J' z.2)) m2 n 0 c s₀ s11 H11 (by omega) gh I12 st11 (fun b hb => (f11 b hb).1) w2)
        · refine seg_bind_wrap (wpAny_rule ?_)
          show Seg _ B _ _ n s₀ _ ((standAt iter2.pos >>= _).wrap _ _ _ _) _ s11
          exact seg_bind_wrap (wpAny_standAt (seg_bind_wrap (T2.self _ _ _ _ _ st11 (seg_again rfl (seg_in (Z := Z) (B := B) (Gh := Gh) (Ss := Ss) (elt := elt) (tg := tg) (iter := iter) (tg2 := tg2) (iter2 := iter2) (ifs := ifs) (ifs2 := ifs2) (scope := scope) (pos := pos) (it2 := it2) (cenv := cenv) (R := GEnd Z Gh Ss (wipe σ0 vs) Z0) (P := P) (σ0 := σ8) (vs := vs2) (ip1 := pinsAt fp s7.heap) (fp := fp2) (Z2 := fun c' m' H' => m' < m ∧ W c' (i + 1) m' H') ((over_loop rfl rfl).trans hAo) rfl rfl hp4 hp5 hp8 hco T2 ok2 (fun p hp hm => hSs _ hm (of_pinsAt hp).1) out2 pg2 pt2 pe turn2
          (fun n' s₀' s' c' m' H' hn' gh' J' z => seg_leaf (.ok .next) (fin z.1 hn' ((hvs σ8).trans hw8) gh' J' z.2)) m2 n 0 c s₀ s11 H11 (by omega) gh I12 st11 (fun b hb => (f11 b hb).1) w2)))))
end
end Hd

set_option maxHeartbeats 4000000
namespace Hd
open PySem PySem.Spec PyProof.Rows L2 GenW
section
variable {M : Model} {A : Around} {E : Value → Shared → Prop} {s : Shared} {elt tg iter tg2 iter2 : Expr} {ifs ifs2 : List Expr} {scope : Scope} {pos : Pos} {env : Env}
theorem eval_two (hco : scope.isCoroutine = false) : eval (gExp2 elt tg iter tg2 iter2 ifs ifs2 scope pos) env = (do
    let y ← eval iter env
    standAt iter.pos
    let y ← genFold iter env y
    let i1 ← holding [y] (pyIter y)
    enterFrame
    let kl ← closureFor scope env
    let kode ← genexprCode env pos (env.qual ++ "<genexpr>") scope
    let blt ← builtinsFor env.globals env.builtins
    let genv ← newFunctionEnv scope env.globals kl [(".0", i1)] (env.qual ++ "<genexpr>.") none kode none blt
    newGenerator (.compStart (gExp2 elt tg iter tg2 iter2 ifs ifs2 scope pos) 0 i1 .none genv) "<genexpr>" (env.qual ++ "<genexpr>")) := by
  rw [arm_eval_GeneratorExp]
  simp only [hco, Bool.false_eq_true, if_false]
  cases iter <;> rfl
theorem make_two {kl : List (Str × Addr)} {Q : Value → Shared → Prop} (hco : scope.isCoroutine = false) (hclos : closureFor scope env = pure kl) (hcell : ∀ y ∈ scope.names, y.2 ≠ .cell) (h0 : scope.names.lookup (".0" : Str) = some NameKind.local) (hkind : scope.kind = .function) (hroom : A.depth < recursionLimit)
    (h : wpAny M A (eval iter env) (fun xv s₁ => wpAny M A (pyIter xv) (fun i1 s₂ => s₂.heap.NoLimit ∧ wpAny M A (genexprCode env pos (env.qual ++ "<genexpr>") scope) (fun kode s₃ => wpAny M A (builtinsFor env.globals env.builtins) (fun blt s₄ =>
        ∀ h', h'.Ns s₄.heap.objs.size (fun y => if y = (".0" : Str) then some i1 else none) → Heap.SameBut s₄.heap.objs.size (s₄.heap.push { cls := .type "frame", data := .dict #[] }) h' →
          Q (.ref h'.objs.size) { s₄ with gens := s₄.gens.push (.fresh (.compStart (gExp2 elt tg iter tg2 iter2 ifs ifs2 scope pos) 0 i1 .none (genEnv scope kl s₄.heap.objs.size kode blt env))), toks := s₄.toks + 1 + 1 + 1, heap := h'.push { cls := .type "generator", data := .fields #[.int s₄.gens.size 0, .str "<genexpr>" (s₄.toks + 1), .str (env.qual ++ "<genexpr>") (s₄.toks + 1 + 1)] } }) E s₃) E s₂) E s₁) E s)
    (hs : ∀ x, genFold iter env x = pure x) : wpAny M A (eval (gExp2 elt tg iter tg2 iter2 ifs ifs2 scope pos) env) Q E s := by
  rw [eval_two hco, hclos]
  refine wpAny_bind (wpAny_mono h (fun xv s₁ g1 => wpAny_bind (wpAny_standAt (wpAny_bind (wpAny_of_eq (hs xv) ?_)))) fun _ _ e => e)
  refine wpAny_bind (wpAny_holding (wpAny_mono g1 (fun i1 s₂ g2 => wpAny_bind (wpAny_enterFrame g2.1 hroom (wpAny_bind (wpAny_pure ?_)))) fun _ _ e => e))
  refine wpAny_bind (wpAny_mono g2.2 (fun kode s₃ g3 => wpAny_bind (wpAny_mono g3 (fun blt s₄ g4 => ?_) fun _ _ e => e)) fun _ _ e => e)
  have one : ∀ y ∈ ([((".0" : Str), i1)] : List (Str × Value)), scope.names.lookup y.1 = some NameKind.local := fun y hy => by
    rw [List.mem_singleton.mp hy]
    exact h0
  refine wpAny_bind (wpAny_newFunctionEnv hcell one (fun h' hn sb => ?_) hkind)
  have e : (fun y : Str => ([((".0" : Str), i1)] : List (Str × Value)).reverse.lookup y) = fun y : Str => if y = (".0" : Str) then some i1 else none := by
    funext y
    by_cases hy : y = (".0" : Str)
    · rw [hy, if_pos rfl] <;> rfl
    · rw [if_neg hy]
      have ne : (y == (".0" : Str)) = false := by simpa using hy
      simp [List.lookup, ne]
  rw [e] at hn
  simp only [newGenerator, newFields]
  exact wpAny_bind (wpAny_newGen (wpAny_bind (wpAny_mkText (wpAny_bind (wpAny_mkText (wpAny_newObj_type (g4 h' hn sb) (by size_fits)))))))
end
end Hd

set_option maxHeartbeats 4000000
/-! all(.. for .. in .. for .. in ..) -/
namespace Hd
open PySem PySem.Spec PyProof.Rows L2 GenW
section
variable {X : Cx} {pins : List (Addr × Obj)} {σ : L2.St} {H : Hp} {s : Shared}
theorem seg_gs2 {B : Around} {R : GenEnd} {Y : Protocol} {n : Nat} {prog : Program} {w : World} {elt tg iter tg2 iter2 : Expr} {ifs ifs2 : List Expr} {scope : Scope} {pos : Pos} {it : Addr} {cenv : Env} {s₀ : Shared}
    (self : ∀ (A : Around) (Q : Value → Shared → Prop) (E : Value → Shared → Prop), Q (.ref it) s → wpAny (model prog w) A (pyIter (.ref it)) Q E s)
    (loop : Seg (model prog w) B R Y n s₀ (.compLoop (gExp2 elt tg iter tg2 iter2 ifs ifs2 scope pos) 0 (.ref it) .none cenv) ((model prog w).den (.compLoop (gExp2 elt tg iter tg2 iter2 ifs ifs2 scope pos) 0 (.ref it) .none cenv)) [] s) :
    Seg (model prog w) B R Y n s₀ (.compStart (gExp2 elt tg iter tg2 iter2 ifs ifs2 scope pos) 0 (.ref it) .none cenv) ((model prog w).den (.compStart (gExp2 elt tg iter tg2 iter2 ifs ifs2 scope pos) 0 (.ref it) .none cenv)) [] s := by
  show Seg _ B _ _ n s₀ _ ((compStart (gExp2 elt tg iter tg2 iter2 ifs ifs2 scope pos) 0 (.ref it) .none cenv).onRaise (leaving cenv)) [] s
  unfold compStart
  rw [Sem.onRaise_eq_wrap]
  show Seg _ B _ _ n s₀ _ ((ask >>= _).wrap _ _ _ _) [] s
  refine seg_bind_wrap (wpAny_askSetting ?_)
  split
  · exact seg_again rfl loop
  · refine seg_bind_wrap (wpAny_rule ?_)
    show Seg _ B _ _ n s₀ _ ((standAt iter.pos >>= _).wrap _ _ _ _) [] s
    exact seg_bind_wrap (wpAny_standAt (seg_bind_wrap (self _ _ _ (seg_again rfl loop))))
theorem gen_made2 {c P : Addr} {elt tg iter tg2 iter2 : Expr} {ifs ifs2 : List Expr} {pos : Pos} {scope : Scope} {own : List (Str × Nat)} {wi : TI} {k : Nat} {Q' : Value → Shared → Prop} {R : It → Hp → Prop} (hr : Room (k + 1) X.A) (TB : GxR.TabB X.base X.mg c P) (hcode : X.env.code = .ref c) (ok : GenOk X.N X.env.scope scope own) (hN : X.N.Nodup) (hi : PI X tg iter wi)
    (hs : ∀ v, genFold iter X.env v = pure v) (I : Inv X pins σ H s) (h : wi σ H fun J H1 => GxR.TabG H1 P ∧ ∀ H2, GxR.Tabbed P H1 H2 → R J H2)
    (hQ : ∀ J H2 a s5, R J H2 → GMake X pins σ scope own (gExp2 elt tg iter tg2 iter2 ifs ifs2 scope pos) tg J H2 a s5 → Q' (.ref a) s5) :
    wpAny (model X.prog X.w) X.A (eval (gExp2 elt tg iter tg2 iter2 ifs ifs2 scope pos) X.env) Q' X.xe s := by
  refine make_two ok.co (closure_ok (ok.free I.ok)) ok.nocell ok.dot ok.blk.kind (by have := hr.dp; omega) ?_ hs
  refine thn (hi.run pins s σ H _ I h) fun xv s1 hx => thn hx fun itv s2 h2 => ?_
  obtain ⟨it, fp, tn, J, H2, rfl, I2, T, st2, f2, ⟨ps, hP, ht⟩, q⟩ := h2
  refine ⟨I2.nolimit, ?_⟩
  have hPs : s2.heap.get? P = some { cls := .none, data := .fields ps } := I2.hok P _ hP
  have cd : PySem.W.CodeHd s2.heap c P := TB.code.keeps fun b u e => I2.bk b u e
  have nP : ∀ b ∈ fp, b ≠ P := fun b hb e => by
    have := (f2 b hb).1
    rw [e, hP] at this
    cases this
  -- behind the code's look: the state, its heap
  have go : ∀ (code : Value) (s3 : Shared) (H3 : Hp), Inv X pins σ H3 s3 → GxR.Tabbed P H2 H3 → (∀ b o, b ≠ P → s2.heap.get? b = some o → s3.heap.get? b = some o) →
      wpAny (model X.prog X.w) X.A (builtinsFor X.env.globals X.env.builtins) (fun bi s₄ =>
        ∀ h', h'.Ns s₄.heap.objs.size (fun y => if y = (".0" : Str) then some (.ref it) else none) → Heap.SameBut s₄.heap.objs.size (s₄.heap.push { cls := .type "frame", data := .dict #[] }) h' →
          Q' (.ref h'.objs.size) { s₄ with gens := s₄.gens.push (.fresh (.compStart (gExp2 elt tg iter tg2 iter2 ifs ifs2 scope pos) 0 (.ref it) .none (genEnv scope (cloFrom X.env.cells scope.names []) s₄.heap.objs.size code bi X.env))), toks := s₄.toks + 1 + 1 + 1, heap := h'.push { cls := .type "generator", data := .fields #[.int s₄.gens.size 0, .str "<genexpr>" (s₄.toks + 1), .str (X.env.qual ++ "<genexpr>") (s₄.toks + 1 + 1)] } }) X.xe s3 := by
    intro code s3 H3 I3 tb kp
    obtain ⟨bm, ob, b1, b2, _, _, b5, b6, b7, b8⟩ := TB.bm
    refine wpAny_builtinsFor (m := X.mg) (by rw [I3.ok.glob]; exact I3.mod.glob.keeps I3.bk) b1 b2 (I3.bk _ _ b5) b6 b7 b8 fun h' hn sb => ?_
    have sz : h'.objs.size = s3.heap.objs.size + 1 := by rw [sb.1, Heap.size_push]
    have kp' : ∀ b o, s3.heap.get? b = some o → h'.get? b = some o := fun b o e => sb.extBut b o (Nat.ne_of_lt (Heap.lt_size e)) (Heap.get?_push_of_some _ e)
    have f3 : ∀ b ∈ fp, FpOk X pins H3 b := fun b hb => ⟨by rw [tb.2 b (nP b hb)]; exact (f2 b hb).1, (f2 b hb).2⟩
    have old : ∀ b ∈ fp, ∃ o, s2.heap.get? b = some o ∧ s3.heap.get? b = some o := fun b hb => by
      obtain ⟨o, e, _⟩ := T.obj _ _ st2 b hb
      exact ⟨o, e, kp b o (nP b hb) e⟩
    have lt3 : ∀ b ∈ fp, b < s3.heap.objs.size := fun b hb => let ⟨o, _, e⟩ := old b hb; Heap.lt_size e
    generalize hgo : ({ cls := .type "generator", data := .fields #[.int s3.gens.size 0, .str "<genexpr>" (s3.toks + 1), .str (X.env.qual ++ "<genexpr>") (s3.toks + 1 + 1)] } : Obj) = go
    have hpg : (h'.push go).get? h'.objs.size = some go := Heap.get?_push_size _ (by rw [← hgo] <;> rfl)
    have isg : ∀ hh : Heap, hh.get? h'.objs.size = some go → hh.IsGen h'.objs.size s3.gens.size := fun hh e => ⟨go, _, _, e, by rw [← hgo], by rw [← hgo], by rw [← hgo]⟩
    have kp5 : ∀ b o, s3.heap.get? b = some o → (h'.push go).get? b = some o := fun b o e => Heap.get?_push_of_some _ (kp' b o e)
    have bare5 : AllBare (s3.gens.push (.fresh (.compStart (gExp2 elt tg iter tg2 iter2 ifs ifs2 scope pos) 0 (.ref it) .none (gev X scope s3.heap.objs.size code)))) := AllBare.push I3.bare rfl
    refine hQ J H3 _ _ (q H3 tb) ⟨it, fp, tn, s3, code, s3.gens.size, go, I3, T, ?_, f3, fun hm => ?_, isg, isg _ hpg, ?_, Array.getElem?_push_size .., fun b hb => (f3 b hb).1, fun A hA hh => ?_⟩
    · exact T.keep _ _ _ st2 fun b hb o e => kp5 b o (kp b o (nP b hb) e)
    · have := lt3 _ hm
      rw [sz] at this
      exact Nat.lt_irrefl _ (Nat.lt_of_succ_lt this)
    · exact I3.nolimit.keeps kp5
    · have st := gx_start (it := .ref it) (code := code) (A := A) (tk := s3.toks + 1 + 1 + 1) I3 ok hN (fun b hb => ⟨f3 b hb, lt3 b hb⟩) (hn.push go) kp5 bare5 hA hh
      refine gx_pin st hpg ?_ ?_ ?_ fun v z => ?_
      · exact I3.hok.fresh (by rw [sz]; exact Nat.le_succ _)
      · show h'.objs.size ≠ s3.heap.objs.size
        rw [sz]
        exact Nat.succ_ne_self _
      · intro hm
        have l := I3.lt
        rcases List.mem_cons.mp (I3.stkSub _ hm) with z | z
        · rw [← z, sz] at l
          exact Nat.lt_irrefl _ (Nat.lt_of_succ_lt l)
        · exact I3.nofs (by rw [sz]; exact Nat.le_succ _) z
      · rw [← hgo] at z
        cases z
  cases hf : codeAmong pos ps.toList with
  | some cv =>
    refine PySem.wpAny_genexprCode_hit hcode (cd.code hPs ht) hf ?_
    exact go cv s2 H2 I2 ⟨⟨ps, hP, ht⟩, fun b _ => rfl⟩ fun b o _ e => e
  | none =>
    refine PySem.wpAny_genexprCodeX hcode (cd.code hPs ht) (cd.tab hPs) hf fun c' h' tk hx hge hlt hco' _ htab' _ => ?_
    obtain ⟨o1, vs, f1, tf, fl, tgg, inF, tx, tt, op, _, _, _, _, _, _, _, _, _, htr, _⟩ := hco'
    have I3 := GxR.inv_tab (h' := h') (g' := s2.gens) (d' := s2.drawn) (t' := tk) I2 hP (fun b u hb e => hx b u hb e) htab'.2 I2.bare
    exact go (.ref c') _ _ I3 ⟨⟨_, upd_same, htr⟩, fun b hb => upd_ne hb⟩ fun b o hb e => hx b o hb e
def tAllG2 (P : Addr) (wi : TI) (g : TG) (tt : TT) (vs : List Nat) (wi2 : TI) (g2 : TG) (tt2 : TT) (te : TE) (vs2 : List Nat) : TE := fun σ H Q => wi σ H fun J H1 => GxR.TabG H1 P ∧ ∀ H2, GxR.Tabbed P H1 H2 → ∃ W : Unit → Nat → Nat → Hp → Prop, (∃ m, W () 0 m H2) ∧ GTurnO σ vs g tt wi2 vs2 g2 tt2 te J (PAll (Q (.bl false))) (fun _ => Q (.bl true)) W
/-- all(elt for tg in iter if ..), the element any expression -/
theorem pe_allG2 {c P : Addr} {elt tg iter tg2 iter2 : Expr} {ifs ifs2 : List Expr} {p pos gpos : Pos} {scope : Scope} {own : List (Str × Nat)} {vs2 : List Nat} {wi wi2 : TI} {g g2 : TG} {tt tt2 : TT} {te : TE} {k : Nat} (hr : Room (k + 1) X.A) (hg : Gl X "all") (hm : X.mg "all" = none) (TB : GxR.TabB X.base X.mg c P) (hcode : X.env.code = .ref c)
    (ok : GenOk X.N X.env.scope scope own) (hN : X.N.Nodup) (hi : PI X tg iter wi) (hpg : ∀ (A : Around) (s : Shared) (H : Hp) (code : Value) (fp : List Addr) (pn : List (Addr × Obj)), Room k A → PG (gx X A s H (gev X scope s.heap.objs.size code) fp pn) tg g)
    (hpt : ∀ (A : Around) (s : Shared) (H : Hp) (code : Value) (fp : List Addr) (pn : List (Addr × Obj)), Room k A → PTs (gx X A s H (gev X scope s.heap.objs.size code) fp pn) ifs tt) (hpe : ∀ (A : Around) (s : Shared) (H : Hp) (code : Value) (fp : List Addr) (pn : List (Addr × Obj)), Room k A → PE (gx X A s H (gev X scope s.heap.objs.size code) fp pn) elt te)
    (hpi2 : ∀ (A : Around) (s : Shared) (H : Hp) (code : Value) (fp : List Addr) (pn : List (Addr × Obj)), Room k A → PI (gx X A s H (gev X scope s.heap.objs.size code) fp pn) tg2 iter2 wi2) (hpg2 : ∀ (A : Around) (s : Shared) (H : Hp) (code : Value) (fp : List Addr) (pn : List (Addr × Obj)), Room k A → PG (gx X A s H (gev X scope s.heap.objs.size code) fp pn) tg2 g2) (hpt2 : ∀ (A : Around) (s : Shared) (H : Hp) (code : Value) (fp : List Addr) (pn : List (Addr × Obj)), Room k A → PTs (gx X A s H (gev X scope s.heap.objs.size code) fp pn) ifs2 tt2) (hvs : ∀ σ : L2.St, wipe (wipe σ vs2) (own.map (·.2)) = wipe σ (own.map (·.2)))
    (hs2 : ∀ (env : Env) v, foldedSetIterable iter2 env v = pure v := by intro _ _; rfl) (hs : ∀ v, genFold iter X.env v = pure v := by intro _; rfl) (hb : bootBuiltins "all" = some (.builtin "all") := by decide +kernel)
    (he : starEach [gExp2 elt tg iter tg2 iter2 ifs ifs2 scope gpos] X.env = (false, eval (gExp2 elt tg iter tg2 iter2 ifs ifs2 scope gpos) X.env) :: starEach [] X.env := by rfl) :
    PE X (.Call (.Name "all" p) [gExp2 elt tg iter tg2 iter2 ifs ifs2 scope gpos] [] pos) (tAllG2 P wi g tt (own.map (·.2)) wi2 g2 tt2 te vs2) := by
  refine ⟨fun pins s σ H Q I h => ?_⟩
  refine wpAny_Call_Name_kw (ld_blt I hg hm hb ?_)
  refine PyProof.Rows.callWith_builtin1 ?_ he (by rfl)
  rw [he]
  show wpAny _ _ (spliced ((false, eval (gExp2 elt tg iter tg2 iter2 ifs ifs2 scope gpos) X.env) :: backTo pos (starEach [] X.env))) _ _ s
  refine Calls.spliced_cons (gen_made2 hr TB hcode ok hN hi hs I h fun J H2 a s5 hR G => ?_)
  obtain ⟨W, ⟨m, w0⟩, turn⟩ := hR
  obtain ⟨it, fp, tn, s4, code, gi, go, I4, T, st, hf, haf, isg, ig5, nl5, gs5, nf, inv⟩ := G.go
  refine Calls.spliced_nil ?_
  refine call_function_tree F.kind_all F.plain_all F.entry_all (F.args_all1 _) ?_
  unfold Builtin.«all»
  refine wpAny_bind (m := oneArg "all" _) (wpAny_pure (wpAny_bind (wpAny_pyIter_gen ig5 (wpAny_pure ⟨plainId_quiet F.plain_all_loop _, ?_⟩))))
  have fr : (X.A.in1.in1.over (.compLoop (gExp2 elt tg iter tg2 iter2 ifs ifs2 scope gpos) 0 (.ref it) .none (gev X scope s4.heap.objs.size code)) []).frames = some (gev X scope s4.heap.objs.size code :: X.stack) := by
    have e : X.A.in1.in1.frames = some X.stack := I4.ok.frames
    unfold Around.over
    dsimp only
    rw [e] <;> rfl
  have rm := over_room (e := gExp2 elt tg iter tg2 iter2 ifs ifs2 scope gpos) (it := .ref it) (acc := .none) (cenv := gev X scope s4.heap.objs.size code) hr rfl rfl
  have J5 := inv _ fr rm.hd
  have J6 := z_gens J5 (allBare_setGen (g := gi) (x := .running) J5.bare rfl)
  refine all_loop (Z := gx X (X.A.in1.in1.over (.compLoop (gExp2 elt tg iter tg2 iter2 ifs ifs2 scope gpos) 0 (.ref it) .none (gev X scope s4.heap.objs.size code)) []) s4 H2 (gev X scope s4.heap.objs.size code) fp [(a, go)]) (σ0 := wipe σ (own.map (·.2))) (QF := Q (.bl false)) (QT := Q (.bl true)) (gi := gi) hr.hd (by have := hr.dp; omega) ⟨go, List.mem_singleton.mpr rfl, isg⟩
    (fun H' s' J q => ⟨.bl true, H', z_back I4 hf J, rfl, q⟩) (fun ip σ' H' s' J q => ⟨.bl false, H', z_back I4 hf J, rfl, q⟩) (m + 1) s5 ⟨ig5, nl5, _, gs5, rfl, ?_⟩
  refine seg_gs2 (fun A Q E hq => T.self A 0 _ Q E st hq) ?_
  exact seg_out (X := X) _ rfl ok.co (hs2 _) T (hpg _ _ _ _ _ _ rm) (hpt _ _ _ _ _ _ rm) (hpi2 _ _ _ _ _ _ rm) (hpg2 _ _ _ _ _ _ rm) (hpt2 _ _ _ _ _ _ rm) (hpe _ _ _ _ _ _ rm) turn (fun p hp => by rw [List.mem_singleton.mp hp]; exact haf) (fun b hb => by cases hb) (fun _ _ _ b hb => by cases hb) hvs m (m + 1) 0 () _ _ H2 (Nat.lt_succ_self _) trivial J6 st nf w0
end
end Hd

set_option maxHeartbeats 4000000
namespace Hd
open PySem PySem.Spec PyProof.Rows L2
theorem t_yes {σ : L2.St} {H : Hp} {A B : Hp → Prop} (h : A H) : tYes σ H (fun b H3 => if b = true then A H3 else B H3) := iteT (B := B H) h
/-- the turns over a tuple of tuples, each of them in a local -/
theorem gt_tup2 {C : Type} {K : PySem.W.Frag} {a : Addr} {xs : List V} {σ : L2.St} {vs vs2 : List Nat} {g g2 : TG} {tt2 : TT} {te : TE} {P : C → V → Hp → (C → Hp → Prop) → Prop} {Z0 : C → Hp → Prop} {k2 : Nat} (N : Nat) (Pv : C → Nat → Hp → Prop) (Qv : C → Nat → Nat → Hp → Prop) (hl : ∀ c i H, i ≤ xs.length → Pv c i H → SqT K H a xs)
    (hs : ∀ c i x H, xs[i]? = some x → Pv c i H → g x (wipe σ vs) H fun σ2 H2 => wipe σ2 vs = wipe σ vs ∧ ∃ a2 ys, σ2[k2]? = some (some (.ref a2)) ∧ SqT K H2 a2 ys ∧ ys.length ≤ N ∧ Qv c i 0 H2 ∧ (∀ c j H, Qv c i j H → SqT K H a2 ys) ∧ (∀ c H, Qv c i ys.length H → Pv c (i + 1) H) ∧
      ∀ c j y H, ys[j]? = some y → Qv c i j H → g2 y (wipe σ2 vs2) H fun σ3 H5 => wipe σ3 vs2 = wipe σ2 vs2 ∧ tt2 σ3 H5 fun b H6 => if b = true then te σ3 H6 fun z H7 => P c z H7 (fun c' H' => Qv c' i (j + 1) H') else Qv c i (j + 1) H6)
    (hg : ∀ x σ H (Q1 Q2 : L2.St → Hp → Prop), (∀ σ' H', Q1 σ' H' → Q2 σ' H') → g x σ H Q1 → g x σ H Q2) (hd : ∀ c H, Pv c xs.length H → Z0 c H) {c0 : C} {H0 : Hp} (h0 : Pv c0 0 H0) :
    ∃ W : C → Nat → Nat → Hp → Prop, (∃ m, W c0 0 m H0) ∧ GTurnO σ vs g tYes (iTup K (tVar k2)) vs2 g2 tt2 te (Itt K a) P Z0 W := by
  refine ⟨fun c i m H => m = (xs.length - i) * (N + 1) ∧ i ≤ xs.length ∧ Pv c i H, ⟨_, rfl, Nat.zero_le _, h0⟩, ?_⟩
  rintro c i m H ⟨em, hi, p⟩
  have q := hl c i H hi p
  by_cases lt : i < xs.length
  · obtain ⟨r, hr⟩ : ∃ r, xs.length - i = r + 1 := ⟨xs.length - i - 1, by omega⟩
    have hr2 : xs.length - (i + 1) = r := by omega
    have em' : m = r * (N + 1) + (N + 1) := by rw [em, hr, Nat.succ_mul]
    refine .inr ⟨⟨xs, xs[i], q, List.getElem?_eq_getElem lt⟩, ?_⟩
    rintro x H' ⟨rfl, at_⟩
    refine hg _ _ _ _ _ (fun σ2 H2 hh => ?_) (hs c i x _ (at_ xs q) p)
    obtain ⟨h1, a2, ys, e1, e2, e3, e4, e5, e6, e7⟩ := hh
    refine ⟨h1, t_yes ?_⟩
    refine ⟨.ref a2, e1, a2, rfl, ⟨ys, e2⟩, fun c j m' H => m' = r * (N + 1) + (ys.length - j) ∧ j ≤ ys.length ∧ Qv c i j H, ⟨_, by omega, rfl, Nat.zero_le _, e4⟩, ?_⟩
    rintro c' j m' H' ⟨f1, f2, f3⟩
    have q2 := e5 c' j H' f3
    by_cases lt2 : j < ys.length
    · refine .inr ⟨⟨ys, ys[j], q2, List.getElem?_eq_getElem lt2⟩, fun c'' H'' => Qv c'' i (j + 1) H'', fun c'' H'' z => ⟨m' - 1, by omega, by omega, lt2, z⟩, ?_⟩
      rintro y H'' ⟨rfl, at2⟩
      exact e7 c' j y _ (at2 ys q2) f3
    · have ej : j = ys.length := by omega
      subst ej
      exact .inl ⟨⟨ys, q2, Nat.le_refl _⟩, by omega, by rw [hr2]; omega, lt, e6 c' H' f3⟩
  · have e : i = xs.length := by omega
    subst e
    exact .inl ⟨⟨xs, q, Nat.le_refl _⟩, hd c H p⟩
end Hd

set_option maxHeartbeats 4000000
namespace Hd
open PySem PySem.Spec PyProof.Rows L2
/-- the turns over a list that stays -/
theorem gt_list {C : Type} {K : PySem.W.Frag} {a : Addr} {xs : List V} {σ : L2.St} {vs : List Nat} {g : TG} {tt : TT} {te : TE} {P : C → V → Hp → (C → Hp → Prop) → Prop} {Z0 : C → Hp → Prop} (Pv : C → Nat → Hp → Prop) (hl : ∀ c i H, i ≤ xs.length → Pv c i H → SqL K H a xs)
    (hs : ∀ c i x H, xs[i]? = some x → Pv c i H → g x (wipe σ vs) H fun σ2 H2 => wipe σ2 vs = wipe σ vs ∧ tt σ2 H2 fun b H3 => if b = true then te σ2 H3 fun y H4 => P c y H4 (fun c' H' => Pv c' (i + 1) H') else Pv c (i + 1) H3) (hd : ∀ c H, Pv c xs.length H → Z0 c H) {c0 : C} {H0 : Hp} (h0 : Pv c0 0 H0) :
    ∃ W : C → Nat → Nat → Hp → Prop, (∃ m, W c0 0 m H0) ∧ GTurn σ vs g tt te (Itl K a) P Z0 W := by
  refine ⟨fun c i m H => m = xs.length - i ∧ i ≤ xs.length ∧ Pv c i H, ⟨xs.length, by simp, Nat.zero_le _, h0⟩, ?_⟩
  rintro c i m H ⟨em, hi, p⟩
  have q := hl c i H hi p
  by_cases lt : i < xs.length
  · refine .inr ⟨⟨xs, xs[i], q, List.getElem?_eq_getElem lt⟩, fun c' H' => Pv c' (i + 1) H', fun c' H' p' => ⟨m - 1, by omega, by omega, lt, p'⟩, ?_⟩
    rintro x H' ⟨rfl, at_⟩
    exact hs c i x _ (at_ xs q) p
  · have e : i = xs.length := by omega
    subst e
    exact .inl ⟨⟨xs, q, Nat.le_refl _⟩, hd c H p⟩
end Hd

set_option maxHeartbeats 4000000
/-! a lambda handed to a def: only the maker's own table changes -/
namespace Hd
open PySem PySem.Spec PyProof.Rows L2 LamX Evl
/-- all stays but the table at P -/
def OffP (P : Addr) (H H' : Hp) : Prop := ∀ b o, b ≠ P → H b = some o → H' b = some o
theorem OffP.refl {P : Addr} {H : Hp} : OffP P H H := fun _ _ _ e => e
theorem OffP.trans {P : Addr} {H H1 H2 : Hp} (a : OffP P H H1) (b : OffP P H1 H2) : OffP P H H2 := fun c o n e => b c o n (a c o n e)
theorem OffP.ex {P : Addr} {H H1 : Hp} (e : Ex H H1) : OffP P H H1 := fun c o _ h => e c o h
section
variable {X : Cx} {pins : List (Addr × Obj)} {σ : L2.St} {H : Hp} {s : Shared}
abbrev lamQ (X : Cx) : Str := X.env.qual ++ "<lambda>"
abbrev lamO (X : Cx) (params : Arguments) (body : Expr) (scope : Scope) (pm : Value) (c' : Addr) (ctv : Value) : Obj :=
  PySem.W.kla_obj "<lambda>" (lamQ X) params body scope (cloFrom X.env.cells scope.names []) pm c' ctv
/-- what is known when the lambda f of code c' has been made -/
structure LamMade (X : Cx) (pins : List (Addr × Obj)) (σ : L2.St) (H : Hp) (P : Addr) (params : Arguments) (body : Expr) (scope : Scope) (f c' : Addr) (pm ctv : Value) (H1 : Hp) (s' : Shared) : Prop where
  inv : Inv X pins σ H1 s'
  off : OffP P H H1
  tab : TabS H1 P (lamQ X)
  at_ : s'.heap.get? f = some (lamO X params body scope pm c' ctv)
  free : H1 f = none
  nofr : f ∉ frs X.stack
  code : H1 c' = some (CodeO c' (lamQ X))
theorem lam_made3 {c P : Addr} {params : Arguments} {body : Expr} {scope : Scope} {pos : Pos} {E : Value → Shared → Prop} {Q : Value → Shared → Prop}
    (I : Inv X pins σ H s) (tbl : TabB X.base X.mg c P) (own : X.env.code = .ref c) (T : TabS H P (lamQ X)) (nodef : defaultsOf params X.env = ([], []))
    (clo : ∀ y ∈ scope.names, y.2 = .free → ∃ c, X.env.cells.lookup y.1 = some c)
    (k : ∀ f c' pm ctv H1 s', LamMade X pins σ H P params body scope f c' pm ctv H1 s' → Q (.ref f) s') :
    wpAny (model X.prog X.w) X.A (eval (.Lambda params body scope pos) X.env) Q E s := by
  obtain ⟨ps, eP, tri, among⟩ := T
  have realP : s.heap.get? P = some { cls := .none, data := .fields ps } := I.hok P _ eP
  have high : ∀ g, s.heap.objs.size ≤ g → g ∉ frs X.stack := fun g hg m => by
    rcases List.mem_cons.mp (I.stkSub _ m) with e | e
    · exact absurd (e ▸ I.lt) (Nat.not_lt.mpr hg)
    · exact I.nofs hg e
  refine PySem.W.kla_eval nodef ?_
  cases hit : codeAmong pos ps.toList with
  | some cv =>
    obtain ⟨c1, rfl, h1⟩ := among pos cv hit
    exact PySem.W.kla_makeFunctionHit (mg := X.mg) (c := c) (P := P) (ps := ps) (closure_ok clo) I.ok.glob (I.mod.glob.keeps I.bk) own (tbl.code.keeps I.bk) realP tri hit (tbl.bm.keeps I.bk)
      fun ctv h' tk grow big => k _ c1 _ ctv H _
        ⟨I.kept fun b o e => Heap.get?_push_of_some _ (grow b o e), OffP.refl, ⟨ps, eP, tri, among⟩, Heap.get?_push_size _ rfl, I.hok.fresh big, high _ big, h1⟩
  | none =>
    refine PySem.W.kla_makeFunction (mg := X.mg) (c := c) (P := P) (ps := ps) (closure_ok clo) I.ok.glob (I.mod.glob.keeps I.bk) own
      (tbl.code.keeps I.bk) realP tri hit tbl.gP (tbl.bm.keeps I.bk) fun c1 ctv h' tk grow ge lt rec tab1 => ?_
    obtain ⟨c2, oc, vs, t, e2, look, dat, nam⟩ := rec
    cases e2
    have big : s.heap.objs.size ≤ h'.objs.size := Nat.le_trans ge (Nat.le_of_lt lt)
    have none1 : H c1 = none := I.hok.fresh ge
    have pc : P ≠ c1 := ne_of_none eP none1
    generalize hmore : (#[rawInt pos.line, rawInt pos.col, Value.ref c1] : Array Value) = more at tab1
    have off : OffP P H (upd (upd H P (.tbl (ps ++ more))) c1 (CodeO c1 (lamQ X))) := fun b o n e => by
      rw [upd_ne (ne_of_none e none1), upd_ne n]
      exact e
    have lst : (ps ++ more).toList = ps.toList ++ [rawInt pos.line, rawInt pos.col, .ref c1] := by rw [← hmore] <;> simp
    refine k _ c1 _ ctv _ _ ⟨inv_table (t' := tk) (more := more) I eP (fun b o n e => Heap.get?_push_of_some _ (grow b o n e)) (Heap.get?_push_of_some _ tab1) ge
      ⟨oc, vs, t, Heap.get?_push_of_some _ look, dat, nam⟩, off, ⟨ps ++ more, ?_, ?_, fun p' cv hcv => ?_⟩, Heap.get?_push_size _ rfl, ?_, high _ big, upd_same⟩
    · rw [upd_ne pc, upd_same]
    · rw [lst]
      exact PySem.TriplesOk_snoc _ _ _ _ tri
    · rw [lst] at hcv
      rcases among_app _ tri hcv with z | rfl
      · obtain ⟨c0, e1, e2⟩ := among p' cv z
        have ncP : c0 ≠ P := fun e => by
          rw [e, eP] at e2
          exact codeO_ne _ (Option.some.inj e2).symm
        exact ⟨c0, e1, off _ _ ncP e2⟩
      · exact ⟨c1, rfl, upd_same⟩
    · rw [upd_ne (Nat.ne_of_gt lt), upd_ne (Nat.ne_of_gt (Nat.lt_of_lt_of_le (Heap.lt_size realP) big))]
      exact I.hok.fresh big
end
/-- x(lambda: body): the maker's table at P alone may change ahead of the call -/
def tLamP (P : Addr) (q : Str) (TT : (XK → Hp → VK → Prop) → Hp → VK → Prop) (t : XK → TE) : TE := fun σ H Q =>
  TabS H P q ∧ ∀ H1, OffP P H H1 → TabS H1 P q → TT (fun E H' Q' => t E σ H' Q') H1 Q
section
variable {X : Cx}
theorem pe_lamP {TT : (XK → Hp → VK → Prop) → Hp → VK → Prop} {x a : Str} {g c P : Addr} {k : Nat} {pg : Arguments} {bg : List Stmt} {sg : Scope} {dV kV doc pm cdv ct oc : Value} {an od : Option Addr}
    {osl : Array (Option Value)} {Ng : List Str} {params : Arguments} {body : Expr} {scope : Scope} {t : XK → TE} {p lpos pos : Pos}
    (hg : Gl X x) (hm : X.mg x = some (.ref g)) (hk : PySem.W.keepIn X.K (.ref g) = true)
    (lk : X.K.lookup g = some ⟨oc, od, .func (PySem.W.fnOf x x pg bg sg dV kV doc pm an cdv ct), osl⟩) (cdn : PySem.W.codeIn X.K cdv x = true)
    (bnd : L2.Binds X.K (PySem.W.fnOf x x pg bg sg dV kV doc pm an cdv ct) [a] []) (Sg : FnScope Ng [a] sg) (first : Ng[0]? = some a) (vis : Vis sg a)
    (gives : GivesTo X Ng x sg g cdv bg a (lamQ X) TT) (TB : TabB X.base X.mg c P) (own : X.env.code = .ref c)
    (hr : Room (k + 2) X.A) (L : LamS X.env.scope scope) (nodef : defaultsOf params X.env = ([], []))
    (nobind : ∀ (q : Str) (cl : List (Str × Addr)) (pm cv ctv : Value), bindArgs (PySem.W.kla_fn "<lambda>" q params body scope cl pm cv ctv) ⟨[], []⟩ = pure [])
    (inner : ∀ (A : Around) (outer : List Env) (s : Shared) (H : Hp) (E : XK) (f c' : Addr), Room k (A.deeper (lamEnv X scope s.heap.objs.size f c')) → PE (lamCx X A outer s H E scope f c') body (t E))
    (nb1 : (x == ("__debug__" : Str)) = false := by decide) (nb2 : (a == ("__debug__" : Str)) = false := by decide) (nb3 : (a == ("__classdict__" : Str)) = false := by decide) :
    PE X (.Call (.Name x p) [.Lambda params body scope lpos] [] pos) (tLamP P (lamQ X) TT t) := by
  constructor
  intro pins s σ H Q I h
  obtain ⟨T, h⟩ := h
  refine wpAny_Call_Name_kw (ld_glob I hg hm ?_ nb1)
  refine PySem.W.callWith_K (h₀ := X.base) I.ok.mod.kin hk ?_ (by rfl) (by rfl)
  change wpAny _ _ (spliced ((false, eval (.Lambda params body scope lpos) X.env) :: backTo pos (starEach [] X.env))) _ _ s
  refine Calls.spliced_cons (lam_made3 I TB own T nodef (L.has I.ok) fun f c1 pm1 ctv H1 s1 M => ?_)
  have I1 := M.inv
  refine Calls.spliced_nil ⟨I1.kIn, wpAny_call (codeAny_mono (R := CR C8.CX0 X.stack X.prog X.w H1 s1 Q C8.E0) ?_ fun r s2 hq => ?_)⟩
  · refine run_ofS (N := Ng) (ps := [a]) (us := [.ref f]) (vs := [.ref f]) lk cdn Sg hr I1.env0 (bnd s1 [.ref f] I1.kIn rfl) (.cons rfl .nil) rfl fun room => ?_
    obtain ⟨t1, a1, a2⟩ := gives f c1 s1 H1 Q (fun E H' Q' => t E σ H' Q')
      (fun W pn xe E p1 p2 tk hW => pe_act (i := 0) I1 L M.at_ M.free M.nofr (nobind _ _ _ _ _) tk hW room (fun A outer s H r2 => inner A outer s H E f c1 r2) first vis nb2 nb3)
      M.code (h H1 M.off M.tab)
    exact ⟨t1, a1.nox, a2⟩
  · match r, hq with
    | .ok (.ret u), hq => exact I1.after hq
end
end Hd

set_option maxHeartbeats 4000000
/-! a law's statements; a local that is one of some defs -/
namespace Hd
open PySem PySem.Spec PyProof.Rows L2 Evl
/-! ### one statement, told by what holds before and behind it -/
def Does (X : Cx) (st : Stmt) (Pre Post : L2.St → Hp → Prop) : Prop := ∃ t, PS X st t ∧ ∀ D σ H, Pre σ H → (∀ σ' H', Post σ' H' → D.nx σ' H') → t D σ H
theorem does_cons {X : Cx} {st : Stmt} {rest : List Stmt} {Pre Mid : L2.St → Hp → Prop} {F : Ends → Prop} (h1 : Does X st Pre Mid) (h2 : ∃ t, PSs X rest t ∧ ∀ D σ H, Mid σ H → F D → t D σ H) : ∃ t, PSs X (st :: rest) t ∧ ∀ D σ H, Pre σ H → F D → t D σ H := by
  obtain ⟨t1, p1, q1⟩ := h1
  obtain ⟨t2, p2, q2⟩ := h2
  exact ⟨_, pss_cut p1 p2, fun D σ H pre f => ⟨Mid, q1 _ σ H pre fun σ' H' m => m, fun σ' H' m => q2 D σ' H' m f⟩⟩
theorem Fn.r {P : Program} {w : World} {K : PySem.W.Frag} {mg : Str → Option Value} {base : Heap} {CX : CXT} {k : Nat} {x : Str} {ps : List Str} {sp : Sp} {f : Addr} {fd : FuncData} (F : Fn P w K mg base CX k x ps sp f fd) : FnR P w K mg base CX k f sp := by
  have h := FnOk.raw F.G F.b (dvs := []) .nil
  simpa only [List.append_nil] using h
/-! ### a local that is one of some defs -/
def tCallAny (i : Nat) (fs : List (Addr × Sp)) (E : XK) (t : TA) : TE := fun σ H Q => ∃ p ∈ fs, σ[i]? = some (some (.ref p.1)) ∧ t σ H fun vs H1 => p.2 vs H1 Q E
theorem pe_callAny {X : Cx} {CX : CXT} {k i : Nat} {fs : List (Addr × Sp)} {E : XK} {x : Str} {e : Expr} {es : List Expr} {t : TA} {p pos : Pos} (F : ∀ q ∈ fs, FnR X.prog X.w X.K X.mg X.base CX k q.1 q.2) (hr : Room k X.A) (hk : ∀ q ∈ fs, PySem.W.keepIn X.K (.ref q.1) = true)
    (hx : Passes CX X E) (ha : PA X (e :: es) t) (hN : X.N[i]? = some x := by rfl) (hv : Vis X.env.scope x := by first | exact Or.inl rfl | exact Or.inr (Or.inl rfl) | exact Or.inr (Or.inr rfl)) (hd : (x == ("__debug__" : Str)) = false := by decide) (hcd : (x == ("__classdict__" : Str)) = false := by decide)
    (he : starEach (e :: es) X.env = (false, eval e X.env) :: starEach es X.env := by rfl) (hpl : (backTo pos (starEach es X.env)).any (·.1) = false := by rfl) : PE X (.Call (.Name x p) (e :: es) [] pos) (tCallAny i fs E t) := by
  refine ⟨fun pins s σ H Q I h => ?_⟩
  obtain ⟨q, hq, hs, h⟩ := h
  refine wpAny_Call_Name_kw (thn ((pe_var (pos := p) (i := i) hN hv hd hcd).run pins s σ H (fun v H1 => v = .ref q.1 ∧ H1 = H) I ⟨.ref q.1, hs, rfl, rfl⟩) fun u s1 ⟨v, H1, I1, r1, ev, eH⟩ => ?_)
  subst ev
  rw [eH] at I1
  cases r1
  refine PySem.W.callWith_K (h₀ := X.base) I.ok.mod.kin (hk q hq) (thn (ha.run pos pins s1 σ H _ I1 h) fun us s2 ⟨vs, H2, I2, r, z⟩ => ⟨I2.kIn, ?_⟩) he hpl
  exact wpAny_call (run_fnR (F q hq) hr hx I2 r z)
end Hd

set_option maxHeartbeats 4000000
/-! a head's facts over chosen objects alone; its equation in three parts -/
namespace Hd
open PySem PySem.Spec PyProof.Rows L2 He
/-- what the objects at as name -/
def nextO (g : Addr → Option Obj) (as : List Addr) : List Addr := as.flatMap fun a => match g a with
  | some o => refsD o
  | none => []
/-- some names' objects (defs, tuples) and what they name; some classes to their methods' code -/
def asS (g : Addr → Option Obj) (ds cs : List Str) : List Addr :=
  let d := ds.map (ga (frG g [mainGlobals]))
  let c := cs.map (ga (frG g [mainGlobals]))
  mainGlobals :: (d ++ (nextO g d ++ (c ++ (nextO g c ++ (nextO g (nextO g c) ++ nextO g (nextO g (nextO g c)))))))
structure Ask where
  fa : List Fa
  fn : List DefD
  tf : List Defn
  ex : PySem.W.Frag → Bool
  ds : List Str
  cs : List Str
def Ask.K (q : Ask) (g : Addr → Option Obj) : PySem.W.Frag := frT g (asS g q.ds q.cs)
def Ask.obs (q : Ask) (g : Addr → Option Obj) : AlX := (obsT q.fa q.fn [] (q.K g), q.ex (q.K g) && tabsB g q.tf (q.K g))
theorem Ask.says {q : Ask} {w : World} {h : Heap} (e : q.obs h.get? = valX q.fn [] w) : SaysX q.fa q.fn [] q.tf q.ex w h (q.K h.get?) := by
  obtain ⟨e1, e2⟩ := Prod.mk.inj (show (obsT q.fa q.fn [] (q.K h.get?), q.ex (q.K h.get?) && tabsB h.get? q.tf (q.K h.get?)) = (valT q.fn [] w, true) from e)
  rw [Bool.and_eq_true] at e2
  have each : ∀ p ∈ q.tf, PySem.W.codeHdIn (q.K h.get?) (cT (q.K h.get?) p).1 (cT (q.K h.get?) p).2 = true ∧ ∃ o, h.get? (cT (q.K h.get?) p).2 = some o ∧ emptyTab o = true := by
    intro p m
    have z := List.all_eq_true.mp e2.2 p m
    rw [Bool.and_eq_true] at z
    refine ⟨z.1, ?_⟩
    have z2 := z.2
    split at z2
    · rename_i o ho
      exact ⟨o, ho, z2⟩
    · cases z2
  constructor
  · exact e1
  · exact e2.1
  · exact fun p m => (each p m).1
  · exact fun p m => let ⟨_, o, a, b⟩ := each p m; frT_none a b
  · exact fun p m => let ⟨_, o, a, b⟩ := each p m; by rw [a, emptyTab_eq b]
def Ask.hook (q : Ask) : PySem.W.Hook where
  α := AlX
  obs := fun s => q.obs s.heap.get?
  val := fun w => valX q.fn [] w
  says := fun w h => ∃ K : PySem.W.Frag, K.In h ∧ SaysX q.fa q.fn [] q.tf q.ex w h K
  of := fun _ _ e => ⟨_, frT_in, Ask.says e⟩
  keeps := fun _ _ _ z k => z.elim fun K ⟨a, c⟩ => ⟨K, PySem.W.Frag.In.keeps a k, { c with empty := fun p m => k _ _ (c.empty p m) }⟩
def Ask.ob (q : Ask) (s : PySem.W.SharedT) : AlX := q.obs (HandSHeadRun.getT s)
theorem Ask.ob_eq (q : Ask) (s : PySem.W.SharedT) : q.ob s = q.hook.obs s.abs := by
  have e : HandSHeadRun.getT s = s.abs.heap.get? := funext (HandSHeadRun.getT_eq s)
  show q.obs (HandSHeadRun.getT s) = q.obs s.abs.heap.get?
  rw [e]
/-- three looks at one run -/
theorem three {β γ1 γ2 γ3 : Type} {o : Option β} {f1 : β → γ1} {f2 : β → γ2} {f3 : β → γ3} {a1 : γ1} {a2 : γ2} {a3 : γ3} (h1 : o.map f1 = some a1) (h2 : o.map f2 = some a2) (h3 : o.map f3 = some a3) : o.map (fun x => (f1 x, f2 x, f3 x)) = some (a1, a2, a3) := by
  cases o with
  | none => cases h1
  | some x =>
    cases h1
    cases h2
    cases h3
    rfl
noncomputable abbrev headRun (r : PySem.W.OpenRow) (M : Nat) (w : World) : Option (Shared × PySem.W.SharedT) := HandSHeadRun.wholeF (fun p => HandSHeadRun.stepQ (HandSHeadRun.denQ HandSHeadRun.tabQ) p w) HandSHeadRun.fenceQ M r.prog
end Hd

set_option maxHeartbeats 4000000
namespace Hd
open PySem PySem.Spec PyProof.Rows L2 Evl
/-! ### own error classes with a field, by Bools -/
def ownExcB (K : PySem.W.Frag) (C : Addr) : Bool := match K.lookup C with
  | some o => (match o.cls, o.data with
    | .type t, .cls cd => decide (t = "type") && ((match cd.mro with | .ref z :: bm => decide (z = C) && PySem.HandSPX.refsVE bm | _ => false) && ((match o.slots.toList with | [_, _, _, _, some (.builtin z), _] => decide (z = "ValueError.__new__") | _ => false) && (cd.hasDict && !cd.hasDel)))
    | _, _ => false)
  | none => false
theorem ownExcB_ok {K : PySem.W.Frag} {C : Addr} (h : ownExcB K C = true) : ∃ nm q N bs bm sn sub ab col dd k0 k1 k2 k3 k5, K.lookup C = some (excClassObj nm q C N bs bm true sn sub ab col dd k0 k1 k2 k3 k5 "ValueError.__new__") ∧ PySem.HandSPX.refsVE bm = true := by
  unfold ownExcB at h
  cases e : K.lookup C with
  | none =>
    rw [e] at h
    cases h
  | some o =>
    rw [e] at h
    obtain ⟨oc, od, dt, osl⟩ := o
    cases oc with
    | type t =>
      cases dt with
      | cls cd =>
        simp only [Bool.and_eq_true, decide_eq_true_eq] at h
        obtain ⟨rfl, h1, h2, h3, h4⟩ := h
        obtain ⟨nm, bs, mro, N, qn, hd, sn, sub, ab, col, del⟩ := cd
        simp only at h1 h2 h3 h4
        subst h3
        have h4' : del = false := by simpa using h4
        subst h4'
        split at h1
        · rename_i z bm
          rw [Bool.and_eq_true] at h1
          obtain ⟨g1, g2⟩ := h1
          have g1' := of_decide_eq_true g1
          subst g1'
          split at h2
          · rename_i k0 k1 k2 k3 z5 k5 hs
            have g5 := of_decide_eq_true h2
            subst g5
            have hsl : osl = #[k0, k1, k2, k3, some (.builtin "ValueError.__new__"), k5] := by
              obtain ⟨l⟩ := osl
              exact congrArg Array.mk hs
            subst hsl
            exact ⟨nm, qn, N, bs, bm, sn, sub, ab, col, od, k0, k1, k2, k3, k5, rfl, g2⟩
          · cases h2
        · cases h1
      | _ => cases h
    | _ => cases dt <;> cases h
def oexB (K : PySem.W.Frag) (C : Addr) : Bool := ownExcB K C && (decide (PySem.W.findIn K (.ref C) "__setattr__" = some (some (.builtin "object.__setattr__"))) && (decide (PySem.W.subIn K (.ref C) (.type "BaseException") = some true) && (decide (PySem.W.typeIn K (.ref C) = some (.type "type")) && PySem.W.keepIn K (.ref C))))
theorem oexB_ok {K : PySem.W.Frag} {C : Addr} (h : oexB K C = true) : OexC K C := by
  unfold oexB at h
  simp only [Bool.and_eq_true, decide_eq_true_eq] at h
  obtain ⟨h1, h2, h3, h4, h5⟩ := h
  exact ⟨ownExcB_ok h1, h2, h3, h4, h5⟩
/-- a whole number at a name of the module -/
def gIntB (K : PySem.W.Frag) (x : Str) (i : Int) : Bool := match PySem.W.nsIn K mainGlobals x with
  | some (some (.int j _)) => decide (j = i)
  | _ => false
theorem gIntB_ok {K : PySem.W.Frag} {mg : Str → Option Value} {h : Heap} {x : Str} {i : Int} (X : K.In h) (G : h.Ns mainGlobals mg) (e : gIntB K x i = true) : ∃ tk, mg x = some (.int i tk) := by
  unfold gIntB at e
  split at e
  · rename_i j tk hj
    obtain rfl := of_decide_eq_true e
    exact ⟨tk, PySem.W.mg_of X G hj⟩
  · cases e
/-- a built-in of another module at a name -/
def gBltB (K : PySem.W.Frag) (x : Str) (b : String) : Bool := decide (PySem.W.nsIn K mainGlobals x = some (some (.builtin b)))
theorem gBltB_ok {K : PySem.W.Frag} {mg : Str → Option Value} {h : Heap} {x : Str} {b : String} (X : K.In h) (G : h.Ns mainGlobals mg) (e : gBltB K x b = true) : mg x = some (.builtin b) := PySem.W.mg_of X G (of_decide_eq_true e)
/-- an own error class with one field, and its __init__ -/
def ownB (K : PySem.W.Frag) (x : Str) : Bool := oexB K (He.ga K x) && (xfB K (He.ga K x) && decide (PySem.W.typeIn K (.ref (He.ma K (He.ga K x) "__init__")) = some (.type "function")))
theorem ownB_ok {K : PySem.W.Frag} {x : Str} (e : ownB K x = true) : OexC K (He.ga K x) ∧ XfC K (He.ga K x) ∧ PySem.W.typeIn K (.ref (He.ma K (He.ga K x) "__init__")) = some (.type "function") := by
  unfold ownB at e
  simp only [Bool.and_eq_true, decide_eq_true_eq] at e
  exact ⟨oexB_ok e.1, xfB_ok e.2.1, e.2.2⟩
end Hd

set_option maxHeartbeats 4000000
/-! values as data: what stands on the heap but for the list at r -/
namespace Hd
open PySem PySem.Spec PyProof.Rows L2 Evl
/-- all but the list at r, and tables, stays -/
def Kr (r : Addr) (H H' : Hp) : Prop := ∀ b o, b ≠ r → (∀ ps, o ≠ .tbl ps) → H b = some o → H' b = some o
theorem Kr.refl {r : Addr} {H : Hp} : Kr r H H := fun _ _ _ _ h => h
theorem Kr.trans {r : Addr} {H H1 H2 : Hp} (a : Kr r H H1) (b : Kr r H1 H2) : Kr r H H2 := fun c o n t h => b c o n t (a c o n t h)
theorem Kr.ex {r : Addr} {H H1 : Hp} (e : Ex H H1) : Kr r H H1 := fun c o _ _ h => e _ _ h
theorem Kr.row {r : Addr} {H : Hp} {o : HO} : Kr r H (upd H r o) := fun c u n _ h => by rw [upd_ne n]; exact h
/-- a fresh list that grows -/
theorem Kr.put {r D : Addr} {H H1 : Hp} {o : HO} (k : Kr r H H1) (n : H D = none) : Kr r H (upd H1 D o) := fun c u m t h => by
  rw [upd_ne (ne_of_none h n)]
  exact k c u m t h
mutual
inductive Dv (r : Addr) (H : Hp) : V → PyData → Prop
  | non : Dv r H .non .none
  | bl (b : Bool) : Dv r H (.bl b) (.bool b)
  | int (i : Int) : Dv r H (.int i) (.int i)
  | str (x : Str) : Dv r H (.str x) (.str x)
  | lst {a : Addr} {xs : List V} {ds : List PyData} : a ≠ r → H a = some (.lst xs) → DvAll r H xs ds → Dv r H (.ref a) (.list ds)
  | tup {a : Addr} {xs : List V} {ds : List PyData} : H a = some (.tup xs) → DvAll r H xs ds → Dv r H (.ref a) (.tuple ds)
inductive DvAll (r : Addr) (H : Hp) : List V → List PyData → Prop
  | nil : DvAll r H [] []
  | cons {v : V} {vs : List V} {d : PyData} {ds : List PyData} : Dv r H v d → DvAll r H vs ds → DvAll r H (v :: vs) (d :: ds)
end
section
variable {r : Addr} {H H' : Hp}
theorem Kr.tup (k : Kr r H H') {b : Addr} {xs : List V} {w : HO} (hr : H r = some w) (nt : ∀ xs, w ≠ .tup xs) (h : H b = some (.tup xs)) : H' b = some (.tup xs) :=
  k b _ (fun e => by rw [e, hr] at h; exact nt _ (Option.some.inj h)) (fun ps z => by cases z) h
mutual
theorem Dv.kr (k : Kr r H H') (hr : ∀ xs, H r ≠ some (.tup xs)) : ∀ (d : PyData) (v : V), Dv r H v d → Dv r H' v d
  | .none, _, h => by cases h; exact .non
  | .bool b, _, h => by cases h; exact .bl b
  | .int b, _, h => by cases h; exact .int b
  | .str b, _, h => by cases h; exact .str b
  | .list ds, _, h => by
    cases h with
    | lst n ha all => exact .lst n (k _ _ n (fun ps z => by cases z) ha) (Dv.krAll k hr ds _ all)
  | .tuple ds, _, h => by
    cases h with
    | tup ha all => exact .tup (k _ _ (fun e => hr _ (e ▸ ha)) (fun ps z => by cases z) ha) (Dv.krAll k hr ds _ all)
  | .dict _, _, h => by cases h
theorem Dv.krAll (k : Kr r H H') (hr : ∀ xs, H r ≠ some (.tup xs)) : ∀ (ds : List PyData) (vs : List V), DvAll r H vs ds → DvAll r H' vs ds
  | [], _, h => by cases h; exact .nil
  | d :: ds, _, h => by
    cases h with
    | cons h1 h2 => exact .cons (Dv.kr k hr d _ h1) (Dv.krAll k hr ds _ h2)
end
mutual
theorem Dv.dp (K : PySem.W.Frag) : ∀ (d : PyData) (v : V), Dv r H v d → Dp K H v d
  | .none, _, h => by cases h; exact .non
  | .bool b, _, h => by cases h; exact .bl b
  | .int b, _, h => by cases h; exact .int b
  | .str b, _, h => by cases h; exact .str b
  | .list ds, _, h => by
    cases h with
    | lst n ha all => exact .lst (SqL.of ha) (Dv.dpAll K ds _ all)
  | .tuple ds, _, h => by
    cases h with
    | tup ha all => exact .tup (SqT.of ha) (Dv.dpAll K ds _ all)
  | .dict _, _, h => by cases h
theorem Dv.dpAll (K : PySem.W.Frag) : ∀ (ds : List PyData) (vs : List V), DvAll r H vs ds → DpAll K H vs ds
  | [], _, h => by cases h; exact .nil
  | d :: ds, _, h => by
    cases h with
    | cons h1 h2 => exact .cons (Dv.dp K d _ h1) (Dv.dpAll K ds _ h2)
end
theorem DvAll.pair : ∀ {vs : List V} {ds : List PyData}, DvAll r H vs ds → Paired (Dv r H) vs ds
  | [], [], _ => .nil
  | _ :: _, _ :: _, h => by
    cases h with
    | cons h1 h2 => exact .cons h1 (DvAll.pair h2)
  | [], _ :: _, h => by cases h
  | _ :: _, [], h => by cases h
theorem DvAll.of : ∀ {vs : List V} {ds : List PyData}, Paired (Dv r H) vs ds → DvAll r H vs ds
  | _, _, .nil => .nil
  | _, _, .cons h t => .cons h (DvAll.of t)
theorem DvAll.len {vs : List V} {ds : List PyData} (h : DvAll r H vs ds) : vs.length = ds.length := Paired.length h.pair
theorem DvAll.app {vs us : List V} {ds es : List PyData} (h : DvAll r H vs ds) (g : DvAll r H us es) : DvAll r H (vs ++ us) (ds ++ es) := by
  induction vs generalizing ds with
  | nil =>
    cases h
    exact g
  | cons v vs ih =>
    cases h with
    | cons h1 h2 => exact .cons h1 (ih h2)
theorem DvAll.at_ {vs : List V} {ds : List PyData} {i : Nat} {v : V} (h : DvAll r H vs ds) (e : vs[i]? = some v) : ∃ d, ds[i]? = some d ∧ Dv r H v d := by
  induction vs generalizing ds i with
  | nil => simp at e
  | cons x vs ih =>
    cases h with
    | cons h1 h2 =>
      cases i with
      | zero =>
        obtain rfl := Option.some.inj (by simpa using e)
        exact ⟨_, rfl, h1⟩
      | succ i =>
        obtain ⟨d, a, b⟩ := ih h2 (i := i) (by simpa using e)
        exact ⟨d, by simpa using a, b⟩
theorem DvAll.rep {v : V} {d : PyData} (h : Dv r H v d) : ∀ n, DvAll r H (List.replicate n v) (List.replicate n d)
  | 0 => .nil
  | n + 1 => .cons h (DvAll.rep h n)
theorem DvAll.take {vs : List V} {ds : List PyData} (h : DvAll r H vs ds) : ∀ n, DvAll r H (vs.take n) (ds.take n) := by
  induction vs generalizing ds with
  | nil =>
    cases h
    intro n
    simpa using DvAll.nil
  | cons v vs ih =>
    cases h with
    | cons h1 h2 =>
      intro n
      cases n with
      | zero => exact .nil
      | succ n => exact .cons h1 (ih h2 n)
theorem DvAll.drop {vs : List V} {ds : List PyData} (h : DvAll r H vs ds) : ∀ n, DvAll r H (vs.drop n) (ds.drop n) := by
  induction vs generalizing ds with
  | nil =>
    cases h
    intro n
    simpa using DvAll.nil
  | cons v vs ih =>
    cases h with
    | cons h1 h2 =>
      intro n
      cases n with
      | zero => exact .cons h1 h2
      | succ n => exact ih h2 n
end
/-! ### data without lists -/
/-- tuples stay -/
def Kt (H H' : Hp) : Prop := ∀ b xs, H b = some (.tup xs) → H' b = some (.tup xs)
theorem Kt.refl {H : Hp} : Kt H H := fun _ _ h => h
theorem Kt.trans {H H1 H2 : Hp} (a : Kt H H1) (b : Kt H1 H2) : Kt H H2 := fun c xs h => b c xs (a c xs h)
theorem Kt.ex {H H1 : Hp} (e : Ex H H1) : Kt H H1 := fun _ _ h => e _ _ h
theorem Kt.put {H : Hp} {D : Addr} {xs : List V} {o : HO} (h : H D = some (.lst xs)) : Kt H (upd H D o) := fun c zs g => by
  rw [upd_ne (fun e => by rw [e, h] at g; cases g)]
  exact g
mutual
inductive Tv (H : Hp) : V → PyData → Prop
  | non : Tv H .non .none
  | bl (b : Bool) : Tv H (.bl b) (.bool b)
  | int (i : Int) : Tv H (.int i) (.int i)
  | str (x : Str) : Tv H (.str x) (.str x)
  | tup {a : Addr} {xs : List V} {ds : List PyData} : H a = some (.tup xs) → TvAll H xs ds → Tv H (.ref a) (.tuple ds)
inductive TvAll (H : Hp) : List V → List PyData → Prop
  | nil : TvAll H [] []
  | cons {v : V} {vs : List V} {d : PyData} {ds : List PyData} : Tv H v d → TvAll H vs ds → TvAll H (v :: vs) (d :: ds)
end
section
variable {H H' : Hp}
mutual
theorem Tv.kt (k : Kt H H') : ∀ (d : PyData) (v : V), Tv H v d → Tv H' v d
  | .none, _, h => by cases h; exact .non
  | .bool b, _, h => by cases h; exact .bl b
  | .int b, _, h => by cases h; exact .int b
  | .str b, _, h => by cases h; exact .str b
  | .list ds, _, h => by cases h
  | .tuple ds, _, h => by
    cases h with
    | tup ha all => exact .tup (k _ _ ha) (Tv.ktAll k ds _ all)
  | .dict _, _, h => by cases h
theorem Tv.ktAll (k : Kt H H') : ∀ (ds : List PyData) (vs : List V), TvAll H vs ds → TvAll H' vs ds
  | [], _, h => by cases h; exact .nil
  | d :: ds, _, h => by
    cases h with
    | cons h1 h2 => exact .cons (Tv.kt k d _ h1) (Tv.ktAll k ds _ h2)
end
mutual
theorem Tv.dv (r : Addr) : ∀ (d : PyData) (v : V), Tv H v d → Dv r H v d
  | .none, _, h => by cases h; exact .non
  | .bool b, _, h => by cases h; exact .bl b
  | .int b, _, h => by cases h; exact .int b
  | .str b, _, h => by cases h; exact .str b
  | .list ds, _, h => by cases h
  | .tuple ds, _, h => by
    cases h with
    | tup ha all => exact .tup ha (Tv.dvAll r ds _ all)
  | .dict _, _, h => by cases h
theorem Tv.dvAll (r : Addr) : ∀ (ds : List PyData) (vs : List V), TvAll H vs ds → DvAll r H vs ds
  | [], _, h => by cases h; exact .nil
  | d :: ds, _, h => by
    cases h with
    | cons h1 h2 => exact .cons (Tv.dv r d _ h1) (Tv.dvAll r ds _ h2)
end
theorem Tv.mv {v : V} {d : PyData} (h : Tv H v d) (k : Kt H H') : Tv H' v d := Tv.kt k d v h
theorem TvAll.mv {vs : List V} {ds : List PyData} (h : TvAll H vs ds) (k : Kt H H') : TvAll H' vs ds := Tv.ktAll k ds vs h
theorem TvAll.app {vs us : List V} {ds es : List PyData} (h : TvAll H vs ds) (g : TvAll H us es) : TvAll H (vs ++ us) (ds ++ es) := by
  induction vs generalizing ds with
  | nil =>
    cases h
    exact g
  | cons v vs ih =>
    cases h with
    | cons h1 h2 => exact .cons h1 (ih h2)
theorem TvAll.len {vs : List V} {ds : List PyData} (h : TvAll H vs ds) : vs.length = ds.length := by
  induction vs generalizing ds with
  | nil => cases h <;> rfl
  | cons v vs ih =>
    cases h with
    | cons h1 h2 => simp [ih h2]
theorem TvAll.at_ {vs : List V} {ds : List PyData} {i : Nat} {v : V} (h : TvAll H vs ds) (e : vs[i]? = some v) : ∃ d, ds[i]? = some d ∧ Tv H v d := by
  induction vs generalizing ds i with
  | nil => simp at e
  | cons x vs ih =>
    cases h with
    | cons h1 h2 =>
      cases i with
      | zero =>
        obtain rfl := Option.some.inj (by simpa using e)
        exact ⟨_, rfl, h1⟩
      | succ i =>
        obtain ⟨d, a, b⟩ := ih h2 (i := i) (by simpa using e)
        exact ⟨d, by simpa using a, b⟩
end
/-! ### lives as data -/
abbrev DeedT := Nat × Nat × Nat
abbrev MomT := List DeedT
abbrev StoryT := List MomT
abbrev LifeT := List (Nat × StoryT)
def intP (n : Nat) : PyData := .int (n : Int)
def deedP (x : DeedT) : PyData := .tuple [intP x.1, intP x.2.1, intP x.2.2]
def momP (m : MomT) : PyData := .tuple (m.map deedP)
def storyP (s : StoryT) : PyData := .tuple (s.map momP)
def sessP (s : Nat × StoryT) : PyData := .tuple [intP s.1, storyP s.2]
def lifeP (L : LifeT) : PyData := .tuple (L.map sessP)
def OkDeed (u p : Nat) (x : DeedT) : Prop := x.1 ≤ u ∧ x.2.1 < p ∧ x.2.2 < 10
def OkMom (u p : Nat) (m : MomT) : Prop := m.length ≤ 2 ∧ ∀ x ∈ m, OkDeed u p x
def OkSess (d p : Nat) (s : Nat × StoryT) : Prop := s.1 < d ∧ ∀ m ∈ s.2, OkMom s.1 p m
def lenT (L : LifeT) : Nat := (L.map fun s => s.2.length).sum
structure OkLife (d p most : Nat) (L : LifeT) : Prop where
  one : 1 ≤ L.length
  three : L.length ≤ 3
  sess : ∀ s ∈ L, OkSess d p s
  len : lenT L ≤ most
end Hd

set_option maxHeartbeats 4000000
/-! l.count(x) of data -/
namespace Hd
open PySem PySem.Spec PyProof.Rows L2
section
variable {X : Cx}
def rCntD (K : PySem.W.Frag) : V → List V → Hp → VK → Prop := fun x xs H Q => ∃ (a : Addr) (y : V) (d : PyData) (ds : List PyData), x = V.ref a ∧ xs = [y] ∧ Dp K H (V.ref a) (.list ds) ∧ Dp K H y d ∧
  SeqAt.shaped (.list ds) = true ∧ SeqAt.shaped d = true ∧ Q (.int (ds.countP fun z => PyData.eqv z d : Nat)) H
theorem mt_countD (hu : X.A.units + 65 < cLine) : MtR X "list.count" (rCntD X.K) := by
  intro pins s σ H x xs v us Q I rx rxs h
  obtain ⟨a, y, d, ds, rfl, rfl, hl, hy, sl, sd, q⟩ := h
  cases rx
  cases rxs with
  | cons ry rt =>
    rename_i uy ut
    cases rt
    obtain ⟨bs, r1⟩ := Dp.reads I d y uy hy ry
    have hxs : PyData.canLayAll0 ds = true := SeqAt.canLay_of_shaped sl
    have hroom : X.A.units + 1 + min (PyData.depthAll ds) d.depth < cLine := room_in_shaped sd hu
    cases hl with
    | lst hs ha =>
      obtain ⟨its, rv, ⟨⟨cls, dd, data, sls⟩, n, ho, hc, hdn, hdt⟩, hlen⟩ := I.list hs
      simp only at hc hdt
      subst hc hdt
      obtain ⟨as, h4⟩ := Dp.readsAll I ds _ its ha rv
      have hmap : its.map (SeqAt.readOf s.heap) = ds := SeqAt.readsAll_map ds its as hxs h4
      refine call_meets PySem.F.slot_list_count ⟨_, ho, rfl⟩ PySem.F.entry_list_count (PySem.F.args_list_count_2 _ _)
        (SeqAt.list_countAt a its.toArray n dd sls uy (fun u => PyData.eqv (SeqAt.readOf s.heap u) d)) ⟨ho, SeqAt.items_eqAt (vs := its.toArray) (show ReadsAll s.heap its.toArray.toList ds as from h4) r1 hxs (SeqAt.canLay_of_shaped sd) hroom, ?_⟩
      have ec : its.toArray.toList.countP (fun u => PyData.eqv (SeqAt.readOf s.heap u) d) = ds.countP fun z => PyData.eqv z d := by
        rw [← hmap, List.countP_map]
        rfl
      refine ⟨.int (ds.countP fun z => PyData.eqv z d : Nat), H, I.tok _, ⟨s.toks, ?_⟩, q⟩
      show Value.int ((its.toArray.toList.countP (fun u => PyData.eqv (SeqAt.readOf s.heap u) d) : Nat) : Int) s.toks = _
      rw [ec]
end
end Hd

set_option maxHeartbeats 4000000
/-! name = {..} of a comprehension -/
namespace Hd
open PySem PySem.Spec PyProof.Rows L2
section
variable {X : Cx}
theorem ps_setDc {i : Nat} {y : Str} {py : Pos} {kx vx tg iter : Expr} {ifs : List Expr} {scope : Scope} {own : List (Str × Nat)} {pos spos : Pos} {wi : TI} {g : TG} {tt : TT} {tk tv : TE} (hc : X.calm = true) (hN : X.N.Nodup) (hy : X.N[i]? = some y) (hyl : X.env.scope.names.lookup y = some .local)
    (hsw : swapsWith (.DictComp kx vx [⟨tg, iter, ifs, 0⟩] scope pos) (some (.Name y py)) spos.line X.env = pure true) (hi : PI X tg iter wi) (ok : BlkOk X.N X.env.scope scope own)
    (hg : ∀ (s : Shared) (H : Hp) (C : Addr) (cl : List (Str × Addr)) (fp : List Addr), PG (X.blk s H scope (compEnvC scope cl C X.env) fp) tg g) (ht : ∀ (s : Shared) (H : Hp) (C : Addr) (cl : List (Str × Addr)) (fp : List Addr), PTs (X.blk s H scope (compEnvC scope cl C X.env) fp) ifs tt)
    (hk : ∀ (s : Shared) (H : Hp) (C : Addr) (cl : List (Str × Addr)) (fp : List Addr), PE (X.blk s H scope (compEnvC scope cl C X.env) fp) kx tk)
    (he : ∀ (s : Shared) (H : Hp) (C : Addr) (cl : List (Str × Addr)) (fp : List Addr), PE (X.blk s H scope (compEnvC scope cl C X.env) fp) vx tv) (hs : ∀ x, foldedSetIterable iter X.env x = pure x := by intro _; rfl) :
    PS X (.Assign [.Name y py] (.DictComp kx vx [⟨tg, iter, ifs, 0⟩] scope pos) spos) (tAsg (tDc wi g tt tk tv (own.map (·.2))) (gName i)) := by
  refine ⟨fun pins s σ H D I h => ?_⟩
  rw [exec_Assign_Name_used _ _ _ _ hsw]
  refine wpAny_bind (wpAny_standAt (wpAny_bind ?_))
  show wpAny _ X.A (do let _ ← comprehension (.DictComp kx vx [⟨tg, iter, ifs, 0⟩] scope pos) scope X.env (firstIterPos [⟨tg, iter, ifs, 0⟩] pos) newDict false (eval iter X.env) (some (assign (.Name y py) X.env))) _ _ s
  have h : tDc wi g tt tk tv (own.map (·.2)) σ H (fun x H1 => gName i x σ H1 D.nx) := h
  refine wpAny_bind (thn (dc_core (Qf := fun _ s' => SP X pins D .next s') hc hN I hi ok hg ht hk he hs h fun L C s' m H' I' q hn f => ?_) fun _ s' hq => wpAny_pure (wpAny_pure hq))
  show wpAny _ _ (assign (.Name y py) X.env (.ref L)) _ _ _
  refine wpAny_assign_Name (store_ok2 (v := V.ref L) I' hN hy (.inl hyl) rfl (fun s2 I2 ⟨a, sb, ha⟩ => ?_) (.inr hyl))
  obtain ⟨f0, f1, f2, f3, f4, f5⟩ := f
  have haC : C ≠ a := by
    rcases ha with z | z
    · rw [z]; exact f1
    · exact fun e => f4 y a z e.symm
  refine ⟨m, hn.sameBut sb haC, fun h3 sb3 => ?_⟩
  exact ⟨_, H', I2.turned (t' := s2.toks) (fun b o hb e => (sb3.2 b hb).trans e) f0 f1 f3 f4 f5, q⟩
theorem sw_trueD {kx vx : Expr} {gs : List Comprehension} {scope : Scope} {pos py : Pos} {y : Str} {l : Nat} {env : Env} (hk : env.scope.kind = .function) (hy : env.scope.names.lookup y = some .local) (hl : (py.line == pos.line) = true)
    (ha : (scope.names.any fun (n, k) => n == y && (k == .local || k == .cell)) = false) : swapsWith (.DictComp kx vx gs scope pos) (some (.Name y py)) l env = pure true := by
  have ky : env.kindOf y = some .local := hy
  have hb : env.blockKind = .function := by unfold Env.blockKind; rw [hk]; rfl
  unfold swapsWith
  simp only [hb, ky, ha, Expr.pos, hl]
  rfl
end
end Hd

set_option maxHeartbeats 4000000
/-! the store, as plain functions: the program's and the law's -/
namespace Hd
/-- drawer, page, version, content -/
abbrev Held := Nat × Nat × Nat × Nat
abbrev CellsT := List (Option Held)
abbrev KnownT := Nat → Nat → Option (Nat × Nat)
abbrev TakenT := Nat → Option Held
inductive Way where
  | tru | free | idle | kept | need | lower
deriving DecidableEq
def knSet (k : KnownT) (d p : Nat) (x : Nat × Nat) : KnownT := fun d' p' => if d' = d ∧ p' = p then some x else k d' p'
def learnH (k : KnownT) (h : Held) : KnownT := if ((k h.1 h.2.1).getD (0, 0)).1 < h.2.2.1 then knSet k h.1 h.2.1 h.2.2 else k
def learnC (m : Nat) (k : KnownT) : Option Held → KnownT
  | some h => if h.1 ≤ m then learnH k h else k
  | none => k
def kn0 : KnownT := fun _ _ => none
def knownOf (m : Nat) (cs : CellsT) : KnownT := cs.foldl (learnC m) kn0
def liveB (k : KnownT) : Option Held → Bool
  | some h => decide (k h.1 h.2.1 = some h.2.2)
  | none => false
def liveAt (k : KnownT) (cs : CellsT) (c : Nat) : Bool := liveB k (cs.getD c none)
def pairOf : Option Held → Nat × Nat
  | some h => (h.1, h.2.1)
  | none => (0, 0)
def livePairs (k : KnownT) (cs : CellsT) : List (Nat × Nat) := (cs.filter (liveB k)).map pairOf
def missP (k : KnownT) (cs : CellsT) (copies d p : Nat) : List Nat := if (k d p).isSome then List.replicate (copies - (livePairs k cs).count (d, p)) p else []
def missR (k : KnownT) (cs : CellsT) (pages copies d : Nat) : List Nat := (List.range pages).flatMap (missP k cs copies d)
def beginR (cs : CellsT) (pages copies m : Nat) : List (List Nat) := (List.range (m + 1)).map (missR (knownOf m cs) cs pages copies)
def verOf (k : KnownT) (d p : Nat) : Nat := ((k d p).getD (0, 0)).1
def putK1 (k : KnownT) (x : Nat × Nat × Nat) : KnownT := knSet k x.1 x.2.1 (verOf k x.1 x.2.1 + 1, x.2.2)
def putR (copies : Nat) (row : List Nat) (p : Nat) : List Nat := row ++ List.replicate (copies - row.count p) p
def putRs (copies : Nat) (rows : List (List Nat)) (x : Nat × Nat × Nat) : List (List Nat) := rows.set x.1 (putR copies (rows.getD x.1 []) x.2.1)
/-! ### sealing -/
def tkSet (t : TakenT) (c : Nat) (h : Held) : TakenT := fun c' => if c' = c then some h else t c'
def tk0 : TakenT := fun _ => none
def again1 (d : Nat) (s : List Nat × TakenT) (x : Nat × Held) : List Nat × TakenT :=
  if x.2.1 = d then (if (s.2 x.1).isSome then (s.1 ++ [x.2.2.1], s.2) else (s.1, tkSet s.2 x.1 x.2)) else s
def bare1 (k : KnownT) (d : Nat) (shut : Nat → Bool) (s : List Nat × TakenT) (c : Nat) : List Nat × TakenT :=
  match s.1 with
  | [] => s
  | p :: r => if (s.2 c).isSome || shut c then s else (r, tkSet s.2 c (d, p, (k d p).getD (0, 0)))
def liveItems (k : KnownT) (cs : CellsT) (fresh : List Nat) : List (Nat × Held) := (fresh.filter (liveAt k cs)).map fun c => (c, (cs.getD c none).getD (0, 0, 0, 0))
def shutB (w : Way) (k : KnownT) (cs : CellsT) (c : Nat) : Bool := decide (w = .free) && liveAt k cs c
def takeD (w : Way) (k : KnownT) (cs : CellsT) (fresh : List Nat) (d : Nat) (s : List Nat × TakenT) : List Nat × TakenT :=
  fresh.foldl (bare1 k d (shutB w k cs)) ((liveItems k cs fresh).foldl (again1 d) s)
def turn1 (w : Way) (k : KnownT) (cs : CellsT) (fresh : List Nat) (s : List (List Nat) × TakenT) (d : Nat) : List (List Nat) × TakenT :=
  let r := takeD w k cs fresh d (s.1.getD d [], s.2)
  (s.1.set d r.1, r.2)
def manyOf (rows : List (List Nat)) : Nat := (rows.map List.length).sum
def freshOf (w : Way) (k : KnownT) (cs : CellsT) (rows : List (List Nat)) (drawn : List Nat) : List Nat :=
  match w with
  | .idle => if manyOf rows = 0 then [] else drawn
  | .kept => drawn.filter fun c => !liveAt k cs c
  | .need => drawn.take (manyOf rows)
  | _ => drawn
def orderOf (w : Way) (n : Nat) : List Nat := if w = .lower then (List.range n).reverse else List.range n
def turns (w : Way) (k : KnownT) (cs : CellsT) (rows : List (List Nat)) (fresh : List Nat) : List (List Nat) × TakenT := (orderOf w rows.length).foldl (turn1 w k cs fresh) (rows, tk0)
def setAll (t : TakenT) (cs : CellsT) (fresh : List Nat) : CellsT := fresh.foldl (fun cs c => cs.set c (t c)) cs
/-- the store while a session goes on -/
structure StT where
  cells : CellsT
  known : KnownT
  rows : List (List Nat)
def StT.put (copies : Nat) (s : StT) (x : Nat × Nat × Nat) : StT := ⟨s.cells, putK1 s.known x, putRs copies s.rows x⟩
def StT.fresh (w : Way) (s : StT) (drawn : List Nat) : List Nat := freshOf w s.known s.cells s.rows drawn
def StT.seal (w : Way) (s : StT) (drawn : List Nat) : StT :=
  let f := s.fresh w drawn
  let t := turns w s.known s.cells s.rows f
  ⟨setAll t.2 s.cells f, s.known, t.1⟩
def StT.begin (pages copies m : Nat) (s : StT) : StT := ⟨s.cells, knownOf m s.cells, beginR s.cells pages copies m⟩
/-- a moment: its deeds, then a drawn set -/
def StT.moment (w : Way) (copies : Nat) (s : StT) (m : List (Nat × Nat × Nat)) : StT := m.foldl (StT.put copies) s
end Hd

set_option maxHeartbeats 4000000
/-! the store: what stays true of it; the law's store is the program's -/
namespace Hd
/-! ### small things -/
theorem knSet_same {k : KnownT} {d p : Nat} {x : Nat × Nat} : knSet k d p x d p = some x := if_pos ⟨rfl, rfl⟩
theorem knSet_ne {k : KnownT} {d p d' p' : Nat} {x : Nat × Nat} (h : ¬ (d' = d ∧ p' = p)) : knSet k d p x d' p' = k d' p' := if_neg h
theorem tkSet_same {t : TakenT} {c : Nat} {h : Held} : tkSet t c h c = some h := if_pos rfl
theorem tkSet_ne {t : TakenT} {c c' : Nat} {h : Held} (n : c' ≠ c) : tkSet t c h c' = t c' := if_neg n
/-! ### what holds of cells alone -/
structure CellsOk (pages : Nat) (cs : CellsT) : Prop where
  uniq : ∀ h g : Held, some h ∈ cs → some g ∈ cs → h.1 = g.1 → h.2.1 = g.2.1 → h.2.2.1 = g.2.2.1 → h = g
  pos : ∀ h : Held, some h ∈ cs → 1 ≤ h.2.2.1
  pg : ∀ h : Held, some h ∈ cs → h.2.1 < pages
/-- the store while the keys 0 to m are at work -/
structure Good (pages m : Nat) (s : StT) : Prop extends CellsOk pages s.cells where
  low : ∀ h : Held, some h ∈ s.cells → h.1 ≤ m → ∃ x, s.known h.1 h.2.1 = some x ∧ h.2.2.1 ≤ x.1 ∧ (h.2.2.1 = x.1 → h.2.2.2 = x.2)
  kn : ∀ d p x, s.known d p = some x → d ≤ m ∧ p < pages ∧ 1 ≤ x.1
  len : s.rows.length = m + 1
  rk : ∀ d p, p ∈ s.rows.getD d [] → (s.known d p).isSome = true
  held : ∀ d p x, s.known d p = some x → p ∈ s.rows.getD d [] ∨ some ((d, p, x) : Held) ∈ s.cells
/-! ### a session begins -/
theorem learn_fold (m : Nat) : ∀ (cs : CellsT) (k : KnownT) (seen : CellsT),
    (∀ h : Held, some h ∈ seen → h.1 ≤ m → ∃ x, k h.1 h.2.1 = some x ∧ h.2.2.1 ≤ x.1) → (∀ d p x, k d p = some x → d ≤ m ∧ some ((d, p, x) : Held) ∈ seen) → (∀ h : Held, some h ∈ cs → 1 ≤ h.2.2.1) →
    (∀ h : Held, some h ∈ seen ++ cs → h.1 ≤ m → ∃ x, cs.foldl (learnC m) k h.1 h.2.1 = some x ∧ h.2.2.1 ≤ x.1) ∧ (∀ d p x, cs.foldl (learnC m) k d p = some x → d ≤ m ∧ some ((d, p, x) : Held) ∈ seen ++ cs)
  | [], k, seen, h1, h2, _ => by
    rw [List.append_nil]
    exact ⟨h1, h2⟩
  | o :: cs, k, seen, h1, h2, pos => by
    have e : seen ++ o :: cs = (seen ++ [o]) ++ cs := by simp
    rw [e, List.foldl_cons]
    have pos' : ∀ h : Held, some h ∈ cs → 1 ≤ h.2.2.1 := fun h hm => pos h (List.mem_cons_of_mem _ hm)
    refine learn_fold m cs (learnC m k o) (seen ++ [o]) (fun h hm hl => ?_) (fun d p x hk => ?_) pos'
    · cases o with
      | none =>
        have hm' : some h ∈ seen := by simpa using hm
        exact h1 h hm' hl
      | some g =>
        show ∃ x, (if g.1 ≤ m then learnH k g else k) h.1 h.2.1 = some x ∧ _
        have hg : 1 ≤ g.2.2.1 := pos g (List.mem_cons_self ..)
        by_cases c : g.1 ≤ m
        · rw [if_pos c]
          unfold learnH
          by_cases c2 : ((k g.1 g.2.1).getD (0, 0)).1 < g.2.2.1
          · rw [if_pos c2]
            by_cases c3 : h.1 = g.1 ∧ h.2.1 = g.2.1
            · refine ⟨g.2.2, by rw [c3.1, c3.2]; exact knSet_same, ?_⟩
              rcases List.mem_append.mp hm with z | z
              · obtain ⟨x, hx, hv⟩ := h1 h z hl
                rw [c3.1, c3.2] at hx
                rw [hx] at c2
                simp at c2
                omega
              · have : h = g := by simpa using z
                rw [this]
                exact Nat.le_refl _
            · rw [knSet_ne c3]
              rcases List.mem_append.mp hm with z | z
              · exact h1 h z hl
              · exact absurd ⟨by rw [show h = g by simpa using z], by rw [show h = g by simpa using z]⟩ c3
          · rw [if_neg c2]
            rcases List.mem_append.mp hm with z | z
            · exact h1 h z hl
            · have hz : h = g := by simpa using z
              subst hz
              cases e2 : k h.1 h.2.1 with
              | none =>
                rw [e2] at c2
                simp at c2
                omega
              | some x =>
                rw [e2] at c2
                simp at c2
                exact ⟨x, rfl, c2⟩
        · rw [if_neg c]
          rcases List.mem_append.mp hm with z | z
          · exact h1 h z hl
          · exact absurd (show g.1 ≤ m by rw [← show h = g by simpa using z]; exact hl) c
    · cases o with
      | none =>
        obtain ⟨a, b⟩ := h2 d p x hk
        exact ⟨a, List.mem_append.mpr (.inl b)⟩
      | some g =>
        have hk' : (if g.1 ≤ m then learnH k g else k) d p = some x := hk
        by_cases c : g.1 ≤ m
        · rw [if_pos c] at hk'
          unfold learnH at hk'
          by_cases c2 : ((k g.1 g.2.1).getD (0, 0)).1 < g.2.2.1
          · rw [if_pos c2] at hk'
            by_cases c3 : d = g.1 ∧ p = g.2.1
            · obtain ⟨rfl, rfl⟩ := c3
              rw [knSet_same] at hk'
              cases hk'
              exact ⟨c, List.mem_append.mpr (.inr (by simp))⟩
            · rw [knSet_ne c3] at hk'
              obtain ⟨a, b⟩ := h2 d p x hk'
              exact ⟨a, List.mem_append.mpr (.inl b)⟩
          · rw [if_neg c2] at hk'
            obtain ⟨a, b⟩ := h2 d p x hk'
            exact ⟨a, List.mem_append.mpr (.inl b)⟩
        · rw [if_neg c] at hk'
          obtain ⟨a, b⟩ := h2 d p x hk'
          exact ⟨a, List.mem_append.mpr (.inl b)⟩
theorem known_all {pages m : Nat} {cs : CellsT} (C : CellsOk pages cs) : (∀ h : Held, some h ∈ cs → h.1 ≤ m → ∃ x, knownOf m cs h.1 h.2.1 = some x ∧ h.2.2.1 ≤ x.1) ∧ (∀ d p x, knownOf m cs d p = some x → d ≤ m ∧ some ((d, p, x) : Held) ∈ cs) := by
  have h := learn_fold m cs kn0 [] (fun h hm => by simp at hm) (fun d p x h => by cases h) C.pos
  rw [List.nil_append] at h
  exact h
theorem getD_map_range {α : Type} {f : Nat → List α} {n d : Nat} (h : d < n) : ((List.range n).map f).getD d [] = f d := by
  rw [List.getD_eq_getElem?_getD, List.getElem?_map, List.getElem?_range h]
  rfl
theorem begin_good {pages copies m : Nat} {s : StT} (C : CellsOk pages s.cells) : Good pages m (s.begin pages copies m) := by
  obtain ⟨h1, h2⟩ := known_all (m := m) C
  refine { toCellsOk := C, low := ?_, kn := ?_, len := by simp [StT.begin, beginR], rk := ?_, held := ?_ }
  · intro h hm hl
    obtain ⟨x, hx, hv⟩ := h1 h hm hl
    refine ⟨x, hx, hv, fun e => ?_⟩
    have := C.uniq h (h.1, h.2.1, x) hm (h2 _ _ _ hx).2 rfl rfl e
    have e2 : h.2.2 = x := by
      have := congrArg (fun z : Held => z.2.2) this
      exact this
    rw [← e2]
  · intro d p x hx
    obtain ⟨a, b⟩ := h2 d p x hx
    exact ⟨a, C.pg _ b, C.pos _ b⟩
  · intro d p hp
    show (knownOf m s.cells d p).isSome = true
    have hp' : p ∈ ((List.range (m + 1)).map (missR (knownOf m s.cells) s.cells pages copies)).getD d [] := hp
    by_cases hd : d < m + 1
    · rw [getD_map_range hd] at hp'
      unfold missR at hp'
      obtain ⟨q, hq, hpq⟩ := List.mem_flatMap.mp hp'
      unfold missP at hpq
      split at hpq
      · rename_i c
        rw [(List.mem_replicate.mp hpq).2]
        exact c
      · simp at hpq
    · rw [List.getD_eq_getElem?_getD, List.getElem?_eq_none (by simp; omega)] at hp'
      simp at hp'
  · intro d p x hx
    exact .inr (h2 d p x hx).2
/-! ### a page is put -/
theorem mem_putR {copies p q : Nat} {row : List Nat} (h : q ∈ putR copies row p) : q ∈ row ∨ q = p := by
  unfold putR at h
  rcases List.mem_append.mp h with z | z
  · exact .inl z
  · exact .inr (List.mem_replicate.mp z).2
theorem put_has {copies p : Nat} {row : List Nat} (hc : 1 ≤ copies) : p ∈ putR copies row p := by
  unfold putR
  by_cases h : p ∈ row
  · exact List.mem_append.mpr (.inl h)
  · refine List.mem_append.mpr (.inr (List.mem_replicate.mpr ⟨?_, rfl⟩))
    rw [List.count_eq_zero_of_not_mem h]
    omega
theorem getD_set {α : Type} {l : List (List α)} {i j : Nat} {x : List α} : (l.set i x).getD j [] = if j = i ∧ i < l.length then x else l.getD j [] := by
  rw [List.getD_eq_getElem?_getD, List.getElem?_set, List.getD_eq_getElem?_getD]
  by_cases e : i = j
  · subst e
    by_cases hl : i < l.length
    · rw [if_pos rfl, if_pos hl, if_pos ⟨rfl, hl⟩]
      rfl
    · rw [if_pos rfl, if_neg hl, if_neg (fun z => hl z.2), List.getElem?_eq_none (by omega)]
  · rw [if_neg e, if_neg (fun z => e z.1.symm)]
theorem put_good {pages copies m : Nat} {s : StT} {x : Nat × Nat × Nat} (G : Good pages m s) (hc : 1 ≤ copies) (hd : x.1 ≤ m) (hp : x.2.1 < pages) : Good pages m (s.put copies x) := by
  obtain ⟨d, p, c⟩ := x
  have hl : d < s.rows.length := by rw [G.len]; exact Nat.lt_succ_of_le hd
  refine { toCellsOk := G.toCellsOk, low := ?_, kn := ?_, len := ?_, rk := ?_, held := ?_ }
  · intro h hm hl
    obtain ⟨y, hy, hv, he⟩ := G.low h hm hl
    by_cases e : h.1 = d ∧ h.2.1 = p
    · refine ⟨(verOf s.known d p + 1, c), ?_, ?_, ?_⟩
      · show knSet s.known d p _ h.1 h.2.1 = _
        rw [e.1, e.2]
        exact knSet_same
      · show h.2.2.1 ≤ verOf s.known d p + 1
        unfold verOf
        rw [← e.1, ← e.2, hy]
        show h.2.2.1 ≤ y.1 + 1
        omega
      · intro z
        have z' : h.2.2.1 = verOf s.known d p + 1 := z
        unfold verOf at z'
        rw [← e.1, ← e.2, hy] at z'
        have z2 : h.2.2.1 = y.1 + 1 := z'
        omega
    · exact ⟨y, (knSet_ne e).trans hy, hv, he⟩
  · intro d' p' y hy
    have hy' : knSet s.known d p (verOf s.known d p + 1, c) d' p' = some y := hy
    by_cases e : d' = d ∧ p' = p
    · obtain ⟨rfl, rfl⟩ := e
      rw [knSet_same] at hy'
      cases hy'
      exact ⟨hd, hp, Nat.le_add_left ..⟩
    · rw [knSet_ne e] at hy'
      exact G.kn _ _ _ hy'
  · show (s.rows.set d _).length = _
    rw [List.length_set]
    exact G.len
  · intro d' p' hq
    have hq' : p' ∈ (s.rows.set d (putR copies (s.rows.getD d []) p)).getD d' [] := hq
    show (knSet s.known d p _ d' p').isSome = true
    rw [getD_set] at hq'
    by_cases e : d' = d ∧ p' = p
    · obtain ⟨rfl, rfl⟩ := e
      rw [knSet_same]
      rfl
    · rw [knSet_ne e]
      by_cases e2 : d' = d ∧ d < s.rows.length
      · rw [if_pos e2] at hq'
        obtain ⟨rfl, _⟩ := e2
        rcases mem_putR hq' with z | z
        · exact G.rk _ _ z
        · exact absurd ⟨rfl, z⟩ e
      · rw [if_neg e2] at hq'
        exact G.rk _ _ hq'
  · intro d' p' y hy
    have hy' : knSet s.known d p (verOf s.known d p + 1, c) d' p' = some y := hy
    show p' ∈ (s.rows.set d (putR copies (s.rows.getD d []) p)).getD d' [] ∨ _
    rw [getD_set]
    by_cases e : d' = d ∧ p' = p
    · obtain ⟨rfl, rfl⟩ := e
      rw [if_pos ⟨rfl, hl⟩]
      exact .inl (put_has hc)
    · rw [knSet_ne e] at hy'
      rcases G.held _ _ _ hy' with z | z
      · refine .inl ?_
        by_cases e2 : d' = d ∧ d < s.rows.length
        · rw [if_pos e2]
          obtain ⟨rfl, _⟩ := e2
          exact List.mem_append.mpr (.inl z)
        · rw [if_neg e2]
          exact z
      · exact .inr z
/-! ### cells are sealed anew -/
/-- what is taken is known as the newest -/
def TkOk (m : Nat) (k : KnownT) (t : TakenT) : Prop := ∀ c h, t c = some h → h.1 ≤ m ∧ k h.1 h.2.1 = some h.2.2
def TkLe (t u : TakenT) : Prop := ∀ c h, t c = some h → u c = some h
theorem TkLe.refl {t : TakenT} : TkLe t t := fun _ _ h => h
theorem TkLe.trans {t u v : TakenT} (a : TkLe t u) (b : TkLe u v) : TkLe t v := fun c h e => b c h (a c h e)
theorem tkSet_le {t : TakenT} {c : Nat} {h : Held} (n : t c = none) : TkLe t (tkSet t c h) := fun c' g e => by
  by_cases z : c' = c
  · rw [z, n] at e
    cases e
  · rw [tkSet_ne z]
    exact e
section
variable {w : Way} {k : KnownT} {cs : CellsT} {fresh : List Nat} {m d pages : Nat}
theorem again_le (d : Nat) (s : List Nat × TakenT) (x : Nat × Held) : TkLe s.2 (again1 d s x).2 := by
  unfold again1
  by_cases h : x.2.1 = d
  · rw [if_pos h]
    by_cases h2 : (s.2 x.1).isSome
    · rw [if_pos h2]
      exact .refl
    · rw [if_neg h2]
      exact tkSet_le (by simpa using h2)
  · rw [if_neg h]
    exact .refl
theorem bare_le (k : KnownT) (d : Nat) (sh : Nat → Bool) (s : List Nat × TakenT) (c : Nat) : TkLe s.2 (bare1 k d sh s c).2 := by
  unfold bare1
  cases e : s.1 with
  | nil => exact .refl
  | cons p r =>
    show TkLe s.2 (if _ then s else _).2
    by_cases h : ((s.2 c).isSome || sh c) = true
    · rw [if_pos h]
      exact .refl
    · rw [if_neg h]
      rw [Bool.or_eq_true, not_or] at h
      exact tkSet_le (by simpa using h.1)
theorem fold_le {α : Type} {f : List Nat × TakenT → α → List Nat × TakenT} (h : ∀ s x, TkLe s.2 (f s x).2) : ∀ (l : List α) (s : List Nat × TakenT), TkLe s.2 (l.foldl f s).2
  | [], _ => .refl
  | x :: l, s => (h s x).trans (fold_le h l (f s x))
theorem takeD_le (s : List Nat × TakenT) : TkLe s.2 (takeD w k cs fresh d s).2 := (fold_le (again_le d) _ _).trans (fold_le (bare_le k d _) _ _)
theorem turn_le (s : List (List Nat) × TakenT) : TkLe s.2 (turn1 w k cs fresh s d).2 := takeD_le (w := w) (k := k) (cs := cs) (fresh := fresh) (d := d) (s.1.getD d [], s.2)
/-- one turn's rows and takings: what they hold is known; what waited or lay waits or lies -/
structure TurnOk (k : KnownT) (m d : Nat) (s : List Nat × TakenT) : Prop where
  row : ∀ p, p ∈ s.1 → (k d p).isSome = true
  tk : TkOk m k s.2
theorem live_item {x : Nat × Held} (h : x ∈ liveItems k cs fresh) : x.1 ∈ fresh ∧ cs.getD x.1 none = some x.2 ∧ k x.2.1 x.2.2.1 = some x.2.2.2 := by
  unfold liveItems at h
  obtain ⟨c, hc, rfl⟩ := List.mem_map.mp h
  obtain ⟨hf, hl⟩ := List.mem_filter.mp hc
  unfold liveAt liveB at hl
  cases e : cs.getD c none with
  | none =>
    rw [e] at hl
    cases hl
  | some g =>
    rw [e] at hl
    refine ⟨hf, ?_, of_decide_eq_true ?_⟩
    · show some g = some ((some g).getD (0, 0, 0, 0))
      rfl
    · exact hl
theorem again_ok {s : List Nat × TakenT} {x : Nat × Held} (S : TurnOk k m d s) (hd : d ≤ m) (hx : k x.2.1 x.2.2.1 = some x.2.2.2) : TurnOk k m d (again1 d s x) := by
  unfold again1
  by_cases h : x.2.1 = d
  · rw [if_pos h]
    by_cases h2 : (s.2 x.1).isSome
    · rw [if_pos h2]
      refine ⟨fun p hp => ?_, S.tk⟩
      rcases List.mem_append.mp hp with z | z
      · exact S.row p z
      · rw [List.mem_singleton.mp z, ← h, hx]
        rfl
    · rw [if_neg h2]
      refine ⟨S.row, fun c g e => ?_⟩
      by_cases z : c = x.1
      · replace e : tkSet s.2 x.1 x.2 c = some g := e
        rw [z, show tkSet s.2 x.1 x.2 x.1 = some x.2 from tkSet_same] at e
        cases e
        exact ⟨by rw [h]; exact hd, hx⟩
      · replace e : tkSet s.2 x.1 x.2 c = some g := e
        rw [show tkSet s.2 x.1 x.2 c = s.2 c from tkSet_ne z] at e
        exact S.tk c g e
  · rw [if_neg h]
    exact S
theorem bare_ok {s : List Nat × TakenT} {c : Nat} {sh : Nat → Bool} (S : TurnOk k m d s) (hd : d ≤ m) : TurnOk k m d (bare1 k d sh s c) := by
  unfold bare1
  cases e : s.1 with
  | nil => exact S
  | cons p r =>
    show TurnOk k m d (if _ then s else _)
    by_cases h : ((s.2 c).isSome || sh c) = true
    · rw [if_pos h]
      exact S
    · rw [if_neg h]
      have hp := S.row p (by rw [e]; exact List.mem_cons_self ..)
      obtain ⟨y, hy⟩ := Option.isSome_iff_exists.mp hp
      refine ⟨fun q hq => S.row q (by rw [e]; exact List.mem_cons_of_mem _ hq), fun c' g z => ?_⟩
      by_cases z2 : c' = c
      · replace z : tkSet s.2 c (d, p, (k d p).getD (0, 0)) c' = some g := z
        rw [z2, show tkSet s.2 c (d, p, (k d p).getD (0, 0)) c = _ from tkSet_same] at z
        cases z
        refine ⟨hd, ?_⟩
        show k d p = some ((k d p).getD (0, 0))
        rw [hy]
        rfl
      · replace z : tkSet s.2 c (d, p, (k d p).getD (0, 0)) c' = some g := z
        rw [show tkSet s.2 c (d, p, (k d p).getD (0, 0)) c' = s.2 c' from tkSet_ne z2] at z
        exact S.tk c' g z
theorem again_fold (hd : d ≤ m) : ∀ (l : List (Nat × Held)) (s : List Nat × TakenT), (∀ x ∈ l, k x.2.1 x.2.2.1 = some x.2.2.2) → TurnOk k m d s → TurnOk k m d (l.foldl (again1 d) s)
  | [], _, _, S => S
  | x :: l, s, h, S => again_fold hd l _ (fun y hy => h y (List.mem_cons_of_mem _ hy)) (again_ok S hd (h x (List.mem_cons_self ..)))
theorem bare_fold {sh : Nat → Bool} (hd : d ≤ m) : ∀ (l : List Nat) (s : List Nat × TakenT), TurnOk k m d s → TurnOk k m d (l.foldl (bare1 k d sh) s)
  | [], _, S => S
  | x :: l, s, S => bare_fold hd l _ (bare_ok S hd)
theorem takeD_ok {s : List Nat × TakenT} (S : TurnOk k m d s) (hd : d ≤ m) : TurnOk k m d (takeD w k cs fresh d s) :=
  bare_fold hd _ _ (again_fold hd _ _ (fun x hx => (live_item hx).2.2) S)
/-! nothing is lost -/
/-- the page waits or has been taken up -/
def Kept (k : KnownT) (fresh : List Nat) (d p : Nat) (s : List Nat × TakenT) : Prop := p ∈ s.1 ∨ ∃ c ∈ fresh, ∃ x, k d p = some x ∧ s.2 c = some (d, p, x)
theorem again_kept {p : Nat} {s : List Nat × TakenT} {x : Nat × Held} (S : Kept k fresh d p s) : Kept k fresh d p (again1 d s x) := by
  rcases S with z | ⟨c, hc, y, hy, z⟩
  · refine .inl ?_
    unfold again1
    by_cases h : x.2.1 = d
    · rw [if_pos h]
      by_cases h2 : (s.2 x.1).isSome
      · rw [if_pos h2]
        exact List.mem_append.mpr (.inl z)
      · rw [if_neg h2]
        exact z
    · rw [if_neg h]
      exact z
  · exact .inr ⟨c, hc, y, hy, again_le d s x _ _ z⟩
theorem again_new {s : List Nat × TakenT} {x : Nat × Held} (hx : x.1 ∈ fresh) (hk : k x.2.1 x.2.2.1 = some x.2.2.2) (hd : x.2.1 = d) : Kept k fresh d x.2.2.1 (again1 d s x) := by
  unfold again1
  rw [if_pos hd]
  by_cases h2 : (s.2 x.1).isSome
  · rw [if_pos h2]
    exact .inl (List.mem_append.mpr (.inr (List.mem_singleton.mpr rfl)))
  · rw [if_neg h2]
    refine .inr ⟨x.1, hx, x.2.2.2, by rw [← hd]; exact hk, ?_⟩
    show tkSet s.2 x.1 x.2 x.1 = _
    rw [tkSet_same, ← hd]
theorem bare_kept {p : Nat} {s : List Nat × TakenT} {c : Nat} {sh : Nat → Bool} (hc : c ∈ fresh) (hp : (k d p).isSome = true) (S : Kept k fresh d p s) : Kept k fresh d p (bare1 k d sh s c) := by
  rcases S with z | ⟨c', hc', y, hy, z⟩
  · unfold bare1
    cases e : s.1 with
    | nil =>
      rw [e] at z
      cases z
    | cons q r =>
      show Kept k fresh d p (if _ then s else _)
      by_cases h : ((s.2 c).isSome || sh c) = true
      · rw [if_pos h]
        exact .inl z
      · rw [if_neg h]
        rw [e] at z
        rcases List.mem_cons.mp z with z | z
        · subst z
          obtain ⟨y, hy⟩ := Option.isSome_iff_exists.mp hp
          refine .inr ⟨c, hc, y, hy, ?_⟩
          show tkSet s.2 c _ c = _
          rw [tkSet_same, hy]
          rfl
        · exact .inl z
  · exact .inr ⟨c', hc', y, hy, bare_le k d sh s c _ _ z⟩
theorem again_folds {p : Nat} : ∀ (l : List (Nat × Held)) (s : List Nat × TakenT), (∀ x ∈ l, x.1 ∈ fresh ∧ k x.2.1 x.2.2.1 = some x.2.2.2) → (Kept k fresh d p s ∨ ∃ x ∈ l, x.2.1 = d ∧ x.2.2.1 = p) → Kept k fresh d p (l.foldl (again1 d) s)
  | [], s, _, h => h.elim id fun ⟨_, hx, _⟩ => by cases hx
  | x :: l, s, a, h => by
    refine again_folds l _ (fun y hy => a y (List.mem_cons_of_mem _ hy)) ?_
    rcases h with z | ⟨y, hy, h1, h2⟩
    · exact .inl (again_kept z)
    · rcases List.mem_cons.mp hy with e | e
      · subst e
        obtain ⟨a1, a2⟩ := a y (List.mem_cons_self ..)
        exact .inl (h2 ▸ again_new a1 a2 h1)
      · exact .inr ⟨y, e, h1, h2⟩
theorem bare_folds {p : Nat} {sh : Nat → Bool} (hp : (k d p).isSome = true) : ∀ (l : List Nat) (s : List Nat × TakenT), (∀ c ∈ l, c ∈ fresh) → Kept k fresh d p s → Kept k fresh d p (l.foldl (bare1 k d sh) s)
  | [], _, _, h => h
  | c :: l, s, a, h => bare_folds hp l _ (fun y hy => a y (List.mem_cons_of_mem _ hy)) (bare_kept (a c (List.mem_cons_self ..)) hp h)
theorem takeD_kept {p : Nat} {s : List Nat × TakenT} (hp : (k d p).isSome = true) (h : Kept k fresh d p s ∨ ∃ x ∈ liveItems k cs fresh, x.2.1 = d ∧ x.2.2.1 = p) : Kept k fresh d p (takeD w k cs fresh d s) :=
  bare_folds hp _ _ (fun _ h => h) (again_folds _ _ (fun x hx => ⟨(live_item hx).1, (live_item hx).2.2⟩) h)
/-- all turns so far -/
structure TurnsOk (k : KnownT) (cs : CellsT) (fresh : List Nat) (m : Nat) (done : List Nat) (s : List (List Nat) × TakenT) : Prop where
  len : s.1.length = m + 1
  row : ∀ d p, p ∈ s.1.getD d [] → (k d p).isSome = true
  tk : TkOk m k s.2
  kept : ∀ d p x, k d p = some x → d ≤ m → (d ∈ done ∧ (∃ y ∈ liveItems k cs fresh, y.2.1 = d ∧ y.2.2.1 = p)) → Kept k fresh d p (s.1.getD d [], s.2)
theorem turn_ok {rows : List (List Nat)} {s : List (List Nat) × TakenT} {done : List Nat} (S : TurnsOk k cs fresh m done s) (K : ∀ d p x, k d p = some x → p ∈ rows.getD d [] → Kept k fresh d p (s.1.getD d [], s.2)) (hd : d ≤ m) :
    TurnsOk k cs fresh m (done ++ [d]) (turn1 w k cs fresh s d) ∧ (∀ d' p x, k d' p = some x → p ∈ rows.getD d' [] → Kept k fresh d' p ((turn1 w k cs fresh s d).1.getD d' [], (turn1 w k cs fresh s d).2)) := by
  have hl : d < s.1.length := by rw [S.len]; exact Nat.lt_succ_of_le hd
  have T : TurnOk k m d (takeD w k cs fresh d (s.1.getD d [], s.2)) := takeD_ok ⟨fun p hp => S.row d p hp, S.tk⟩ hd
  have le := takeD_le (w := w) (k := k) (cs := cs) (fresh := fresh) (d := d) (s.1.getD d [], s.2)
  have ne : ∀ d' p, d' ≠ d → Kept k fresh d' p (s.1.getD d' [], s.2) → Kept k fresh d' p ((turn1 w k cs fresh s d).1.getD d' [], (turn1 w k cs fresh s d).2) := by
    intro d' p h z
    have e : (turn1 w k cs fresh s d).1.getD d' [] = s.1.getD d' [] := by
      show (s.1.set d _).getD d' [] = _
      rw [getD_set, if_neg (fun q => h q.1)]
    rw [e]
    rcases z with z | ⟨c, hc, y, hy, z⟩
    · exact .inl z
    · exact .inr ⟨c, hc, y, hy, le _ _ z⟩
  have eq : (turn1 w k cs fresh s d).1.getD d [] = (takeD w k cs fresh d (s.1.getD d [], s.2)).1 := by
    show (s.1.set d _).getD d [] = _
    rw [getD_set, if_pos ⟨rfl, hl⟩]
  refine ⟨{ len := ?_, row := ?_, tk := T.tk, kept := ?_ }, ?_⟩
  · show (s.1.set d _).length = _
    rw [List.length_set]
    exact S.len
  · intro d' p hp
    by_cases e : d' = d
    · subst e
      rw [eq] at hp
      exact T.row p hp
    · have e2 : (turn1 w k cs fresh s d).1.getD d' [] = s.1.getD d' [] := by
        show (s.1.set d _).getD d' [] = _
        rw [getD_set, if_neg (fun q => e q.1)]
      rw [e2] at hp
      exact S.row d' p hp
  · intro d' p x hx hm' ⟨hdn, hy⟩
    by_cases e : d' = d
    · subst e
      rw [eq]
      exact takeD_kept (by rw [hx] <;> rfl) (.inr hy)
    · refine ne d' p e (S.kept d' p x hx hm' ⟨?_, hy⟩)
      rcases List.mem_append.mp hdn with z | z
      · exact z
      · exact absurd (List.mem_singleton.mp z) e
  · intro d' p x hx hp
    by_cases e : d' = d
    · subst e
      rw [eq]
      exact takeD_kept (by rw [hx] <;> rfl) (.inl (K _ _ _ hx hp))
    · exact ne d' p e (K _ _ _ hx hp)
theorem turns_fold {rows : List (List Nat)} : ∀ (l : List Nat) (s : List (List Nat) × TakenT) (done : List Nat), (∀ d ∈ l, d ≤ m) → TurnsOk k cs fresh m done s → (∀ d p x, k d p = some x → p ∈ rows.getD d [] → Kept k fresh d p (s.1.getD d [], s.2)) →
    TurnsOk k cs fresh m (done ++ l) (l.foldl (turn1 w k cs fresh) s) ∧ (∀ d p x, k d p = some x → p ∈ rows.getD d [] → Kept k fresh d p ((l.foldl (turn1 w k cs fresh) s).1.getD d [], (l.foldl (turn1 w k cs fresh) s).2))
  | [], s, done, _, S, K => by
    rw [List.append_nil]
    exact ⟨S, K⟩
  | d :: l, s, done, h, S, K => by
    obtain ⟨S2, K2⟩ := turn_ok (w := w) S K (h d (List.mem_cons_self ..))
    have e : done ++ d :: l = (done ++ [d]) ++ l := by simp
    rw [e]
    exact turns_fold l _ _ (fun y hy => h y (List.mem_cons_of_mem _ hy)) S2 K2
theorem mem_order {n d : Nat} : d ∈ orderOf w n ↔ d < n := by
  unfold orderOf
  split <;> simp
end
theorem setAll_at (t : TakenT) : ∀ (fresh : List Nat) (cs : CellsT), fresh.Nodup → ∀ c, (setAll t cs fresh)[c]? = if c ∈ fresh ∧ c < cs.length then some (t c) else cs[c]?
  | [], cs, _, c => by
    rw [if_neg (fun z => by cases z.1)]
    rfl
  | x :: l, cs, n, c => by
    obtain ⟨n1, n2⟩ := List.nodup_cons.mp n
    show (setAll t (cs.set x (t x)) l)[c]? = _
    rw [setAll_at t l _ n2 c, List.length_set, List.getElem?_set]
    by_cases e : c = x
    · subst e
      rw [if_neg (fun z => n1 z.1)]
      by_cases hl : c < cs.length
      · rw [if_pos rfl, if_pos hl, if_pos ⟨List.mem_cons_self .., hl⟩]
      · rw [if_pos rfl, if_neg hl, if_neg (fun z => hl z.2), List.getElem?_eq_none (by omega)]
    · rw [if_neg (Ne.symm e)]
      by_cases h : c ∈ l ∧ c < cs.length
      · rw [if_pos h, if_pos ⟨List.mem_cons_of_mem _ h.1, h.2⟩]
      · rw [if_neg h, if_neg]
        rintro ⟨h1, h2⟩
        rcases List.mem_cons.mp h1 with z | z
        · exact e z
        · exact h ⟨z, h2⟩
theorem setAll_len (t : TakenT) : ∀ (fresh : List Nat) (cs : CellsT), (setAll t cs fresh).length = cs.length
  | [], cs => rfl
  | x :: l, cs => by
    show (setAll t (cs.set x (t x)) l).length = _
    rw [setAll_len t l, List.length_set]
theorem fresh_sub {w : Way} {k : KnownT} {cs : CellsT} {rows : List (List Nat)} {drawn : List Nat} : (freshOf w k cs rows drawn).Sublist drawn := by
  cases w
  · exact List.Sublist.refl _
  · exact List.Sublist.refl _
  · show (if manyOf rows = 0 then [] else drawn).Sublist drawn
    by_cases h : manyOf rows = 0
    · rw [if_pos h]
      exact List.nil_sublist _
    · rw [if_neg h]
      exact List.Sublist.refl _
  · exact List.filter_sublist
  · exact List.take_sublist _ _
  · exact List.Sublist.refl _
theorem turns_ok {w : Way} {pages m : Nat} {s : StT} {fresh : List Nat} (G : Good pages m s) : TurnsOk s.known s.cells fresh m (orderOf w s.rows.length) (turns w s.known s.cells s.rows fresh) ∧
    (∀ d p x, s.known d p = some x → p ∈ s.rows.getD d [] → Kept s.known fresh d p ((turns w s.known s.cells s.rows fresh).1.getD d [], (turns w s.known s.cells s.rows fresh).2)) := by
  have S : TurnsOk s.known s.cells fresh m [] (s.rows, tk0) := ⟨G.len, G.rk, (fun c h e => nomatch e), (fun d p x _ _ h => nomatch h.1)⟩
  have := turns_fold (w := w) (rows := s.rows) (orderOf w s.rows.length) (s.rows, tk0) [] (fun d hd => by have := mem_order.mp hd; rw [G.len] at this; omega) S (fun d p x _ hp => .inl hp)
  rw [List.nil_append] at this
  exact this
theorem seal_good {w : Way} {pages m : Nat} {s : StT} {drawn : List Nat} (G : Good pages m s) (nd : drawn.Nodup) (hb : ∀ c ∈ drawn, c < s.cells.length) : Good pages m (s.seal w drawn) := by
  have ndf : (s.fresh w drawn).Nodup := fresh_sub.nodup nd
  have hbf : ∀ c ∈ s.fresh w drawn, c < s.cells.length := fun c hc => hb c (fresh_sub.subset hc)
  obtain ⟨T, K⟩ := turns_ok (w := w) (fresh := s.fresh w drawn) G
  have at_ : ∀ c, (s.seal w drawn).cells[c]? = if c ∈ s.fresh w drawn ∧ c < s.cells.length then some ((turns w s.known s.cells s.rows (s.fresh w drawn)).2 c) else s.cells[c]? := fun c => setAll_at _ _ _ ndf c
  have mem : ∀ h : Held, some h ∈ (s.seal w drawn).cells → some h ∈ s.cells ∨ (h.1 ≤ m ∧ s.known h.1 h.2.1 = some h.2.2) := by
    intro h hm
    obtain ⟨c, hc⟩ := List.mem_iff_getElem?.mp hm
    rw [at_ c] at hc
    by_cases z : c ∈ s.fresh w drawn ∧ c < s.cells.length
    · rw [if_pos z] at hc
      exact .inr (T.tk c h (Option.some.inj hc))
    · rw [if_neg z] at hc
      exact .inl (List.mem_iff_getElem?.mpr ⟨c, hc⟩)
  refine { uniq := ?_, pos := ?_, pg := ?_, low := ?_, kn := G.kn, len := T.len, rk := T.row, held := ?_ }
  · intro h g hh hg e1 e2 e3
    have mix : ∀ a b : Held, some a ∈ s.cells → b.1 ≤ m → s.known b.1 b.2.1 = some b.2.2 → a.1 = b.1 → a.2.1 = b.2.1 → a.2.2.1 = b.2.2.1 → a = b := by
      rintro ⟨a1, a2, a3, a4⟩ ⟨b1, b2, b3, b4⟩ ha hb1 hb2 f1 f2 f3
      simp only at hb1 hb2 f1 f2 f3
      subst f1 f2 f3
      obtain ⟨x, hx, _, he⟩ := G.low _ ha hb1
      simp only at hx he
      rw [hb2] at hx
      cases hx
      rw [he rfl]
    rcases mem h hh with z | ⟨z1, z2⟩
    · rcases mem g hg with y | ⟨y1, y2⟩
      · exact G.uniq h g z y e1 e2 e3
      · exact mix h g z y1 y2 e1 e2 e3
    · rcases mem g hg with y | ⟨y1, y2⟩
      · exact (mix g h y z1 z2 e1.symm e2.symm e3.symm).symm
      · obtain ⟨a1, a2, a3⟩ := h
        obtain ⟨b1, b2, b3⟩ := g
        simp only at z2 y2 e1 e2
        subst e1 e2
        rw [z2] at y2
        cases y2
        rfl
  · intro h hm
    rcases mem h hm with z | ⟨z1, z2⟩
    · exact G.pos h z
    · exact (G.kn _ _ _ z2).2.2
  · intro h hm
    rcases mem h hm with z | ⟨z1, z2⟩
    · exact G.pg h z
    · exact (G.kn _ _ _ z2).2.1
  · intro h hm hl
    rcases mem h hm with z | ⟨z1, z2⟩
    · exact G.low h z hl
    · exact ⟨h.2.2, z2, Nat.le_refl _, fun _ => rfl⟩
  · intro d p x hx
    have hdm : d ≤ m := (G.kn _ _ _ hx).1
    have fin : Kept s.known (s.fresh w drawn) d p ((turns w s.known s.cells s.rows (s.fresh w drawn)).1.getD d [], (turns w s.known s.cells s.rows (s.fresh w drawn)).2) → p ∈ (s.seal w drawn).rows.getD d [] ∨ some ((d, p, x) : Held) ∈ (s.seal w drawn).cells := by
      rintro (z | ⟨c, hc, y, hy, z⟩)
      · exact .inl z
      · have hx' : s.known d p = some x := hx
        rw [hy] at hx'
        cases hx'
        refine .inr (List.mem_iff_getElem?.mpr ⟨c, ?_⟩)
        rw [at_ c, if_pos ⟨hc, hbf c hc⟩]
        exact congrArg some z
    rcases G.held d p x hx with z | z
    · exact fin (K d p x hx z)
    · obtain ⟨c, hc⟩ := List.mem_iff_getElem?.mp z
      by_cases f : c ∈ s.fresh w drawn
      · refine fin (T.kept d p x hx hdm ⟨mem_order.mpr (by rw [G.len]; omega), (c, (d, p, x)), ?_, rfl, rfl⟩)
        refine List.mem_map.mpr ⟨c, List.mem_filter.mpr ⟨f, ?_⟩, ?_⟩
        · show liveB s.known (s.cells.getD c none) = true
          rw [List.getD_eq_getElem?_getD, hc]
          exact decide_eq_true hx
        · rw [List.getD_eq_getElem?_getD, hc]
          rfl
      · refine .inr (List.mem_iff_getElem?.mpr ⟨c, ?_⟩)
        rw [at_ c, if_neg (fun q => f q.1)]
        exact hc
end Hd

set_option maxHeartbeats 4000000
/-! the law's own store, as plain functions: it is the program's -/
namespace Hd
abbrev NewT := Nat → Nat → Option Nat
def nOf (k : KnownT) : NewT := fun d p => (k d p).map (·.1)
def newSet (n : NewT) (d p v : Nat) : NewT := fun d' p' => if d' = d ∧ p' = p then some v else n d' p'
def lnewC (m : Nat) (n : NewT) : Option Held → NewT
  | some h => if h.1 ≤ m ∧ (n h.1 h.2.1).getD 0 < h.2.2.1 then newSet n h.1 h.2.1 h.2.2.1 else n
  | none => n
theorem nOf_set {k : KnownT} {d p : Nat} {x : Nat × Nat} : newSet (nOf k) d p x.1 = nOf (knSet k d p x) := by
  funext d' p'
  unfold newSet nOf knSet
  by_cases h : d' = d ∧ p' = p
  · rw [if_pos h, if_pos h]
    rfl
  · rw [if_neg h, if_neg h]
theorem nOf_getD {k : KnownT} {d p : Nat} : (nOf k d p).getD 0 = ((k d p).getD (0, 0)).1 := by
  unfold nOf
  cases k d p <;> rfl
theorem lnew_step {m : Nat} {k : KnownT} {o : Option Held} : lnewC m (nOf k) o = nOf (learnC m k o) := by
  cases o with
  | none => rfl
  | some h =>
    show (if h.1 ≤ m ∧ (nOf k h.1 h.2.1).getD 0 < h.2.2.1 then newSet (nOf k) h.1 h.2.1 h.2.2.1 else nOf k) = nOf (if h.1 ≤ m then learnH k h else k)
    rw [nOf_getD]
    unfold learnH
    by_cases a : h.1 ≤ m
    · by_cases b : ((k h.1 h.2.1).getD (0, 0)).1 < h.2.2.1
      · rw [if_pos ⟨a, b⟩, if_pos a, if_pos b]
        exact nOf_set
      · rw [if_neg (fun z => b z.2), if_pos a, if_neg b]
    · rw [if_neg (fun z => a z.1), if_neg a]
theorem lnew_fold {m : Nat} : ∀ (cs : CellsT) (k : KnownT), cs.foldl (lnewC m) (nOf k) = nOf (cs.foldl (learnC m) k)
  | [], _ => rfl
  | o :: cs, k => by rw [List.foldl_cons, List.foldl_cons, lnew_step, lnew_fold cs]
/-! ### rows -/
def fullH (k : KnownT) (d p : Nat) : Held := (d, p, (k d p).getD (0, 0))
def fullRows (k : KnownT) (rows : List (List Nat)) : List (List Held) := rows.mapIdx fun d r => r.map (fullH k d)
theorem full_at {k : KnownT} {rows : List (List Nat)} {d : Nat} : (fullRows k rows).getD d [] = (rows.getD d []).map (fullH k d) := by
  unfold fullRows
  rw [List.getD_eq_getElem?_getD, List.getElem?_mapIdx, List.getD_eq_getElem?_getD]
  cases rows[d]? <;> rfl
theorem full_len {k : KnownT} {rows : List (List Nat)} : (fullRows k rows).length = rows.length := by
  unfold fullRows
  rw [List.length_mapIdx]
theorem rows_ext {α : Type} {a b : List (List α)} (hl : a.length = b.length) (h : ∀ d, a.getD d [] = b.getD d []) : a = b := by
  refine List.ext_getElem? fun i => ?_
  have hi := h i
  rw [List.getD_eq_getElem?_getD, List.getD_eq_getElem?_getD] at hi
  by_cases c : i < a.length
  · have c2 : i < b.length := hl ▸ c
    rw [List.getElem?_eq_getElem c, List.getElem?_eq_getElem c2] at hi ⊢
    simpa using hi
  · rw [List.getElem?_eq_none (by omega), List.getElem?_eq_none (by omega)]
/-! ### a session begins -/
def lieB (d p v : Nat) : Option Held → Bool
  | some h => decide (h.1 = d ∧ h.2.1 = p ∧ h.2.2.1 = v)
  | none => false
def lyings (cs : CellsT) (d p v : Nat) : List (Option Held) := cs.filter (lieB d p v)
section
variable {k : KnownT} {cs : CellsT} {m pages copies : Nat}
theorem lie_eq (C : CellsOk pages cs) {d p : Nat} {x : Nat × Nat} (hm : some ((d, p, x) : Held) ∈ cs) : ∀ o ∈ cs, lieB d p x.1 o = decide (o = some (d, p, x)) := by
  intro o ho
  cases o with
  | none => rfl
  | some h =>
    show decide (h.1 = d ∧ h.2.1 = p ∧ h.2.2.1 = x.1) = _
    by_cases e : h.1 = d ∧ h.2.1 = p ∧ h.2.2.1 = x.1
    · rw [decide_eq_true e]
      have := C.uniq h (d, p, x) ho hm e.1 e.2.1 e.2.2
      rw [this]
      simp
    · rw [decide_eq_false e]
      refine (decide_eq_false fun z => e ?_).symm
      cases z
      exact ⟨rfl, rfl, rfl⟩
theorem filter_rep (a : Option Held) : ∀ l : CellsT, l.filter (fun o => decide (o = a)) = List.replicate (l.count a) a
  | [] => rfl
  | b :: l => by
    rw [List.filter_cons, List.count_cons, filter_rep a l]
    by_cases e : b = a
    · subst e
      simp [List.replicate_succ]
    · simp [e]
theorem lyings_eq (C : CellsOk pages cs) {d p : Nat} {x : Nat × Nat} (hm : some ((d, p, x) : Held) ∈ cs) : lyings cs d p x.1 = List.replicate (cs.count (some (d, p, x))) (some (d, p, x)) := by
  unfold lyings
  rw [List.filter_congr (lie_eq C hm)]
  exact filter_rep _ _
theorem lyings_pos {d p : Nat} {x : Nat × Nat} (hm : some ((d, p, x) : Held) ∈ cs) : 0 < cs.count (some ((d, p, x) : Held)) := List.count_pos_iff.mpr hm
theorem live_count {d p : Nat} {x : Nat × Nat} (hk : k d p = some x) : ∀ cs : CellsT, (livePairs k cs).count (d, p) = cs.count (some ((d, p, x) : Held))
  | [] => rfl
  | o :: cs => by
    have ih := live_count hk cs
    unfold livePairs at ih ⊢
    rw [List.filter_cons, List.count_cons]
    cases o with
    | none =>
      show ((cs.filter (liveB k)).map pairOf).count (d, p) = _
      rw [ih]
      simp
    | some h =>
      by_cases l : liveB k (some h) = true
      · rw [if_pos l, List.map_cons, List.count_cons, ih]
        have l' : k h.1 h.2.1 = some h.2.2 := of_decide_eq_true l
        show _ + (if ((h.1, h.2.1) == (d, p)) = true then 1 else 0) = _
        congr 1
        by_cases e : h.1 = d ∧ h.2.1 = p
        · obtain ⟨h1, h2, h3⟩ := h
          simp only at e l'
          obtain ⟨rfl, rfl⟩ := e
          rw [hk] at l'
          cases l'
          simp
        · rw [if_neg (by simpa using e), if_neg]
          simp only [beq_iff_eq, Option.some.injEq]
          intro z
          rw [z] at e
          exact e ⟨rfl, rfl⟩
      · rw [if_neg l, ih]
        rw [if_neg]
        · rfl
        · simp only [beq_iff_eq, Option.some.injEq]
          intro z
          rw [z] at l
          exact l (decide_eq_true hk)
/-- the law's step for one page of the sorted ones -/
def lbeg1 (k : KnownT) (cs : CellsT) (copies : Nat) (rows : List (List Held)) (q : Nat × Nat) : List (List Held) := rows.set q.1 (rows.getD q.1 [] ++ (missP k cs copies q.1 q.2).map (fullH k q.1))
theorem missP_eq {d p : Nat} {x : Nat × Nat} (hk : k d p = some x) : (missP k cs copies d p).map (fullH k d) = List.replicate (copies - cs.count (some ((d, p, x) : Held))) (d, p, x) := by
  unfold missP
  rw [if_pos (by rw [hk] <;> rfl), live_count hk, List.map_replicate]
  unfold fullH
  rw [hk]
  rfl
theorem lbeg_fold : ∀ (L : List (Nat × Nat)) (rows : List (List Held)), (∀ q ∈ L, q.1 < rows.length) → (L.foldl (lbeg1 k cs copies) rows).length = rows.length ∧
    ∀ d, (L.foldl (lbeg1 k cs copies) rows).getD d [] = rows.getD d [] ++ (((L.filter fun q => decide (q.1 = d)).map (·.2)).flatMap (missP k cs copies d)).map (fullH k d)
  | [], rows, _ => ⟨rfl, fun d => by simp⟩
  | q :: L, rows, h => by
    have hq := h q (List.mem_cons_self ..)
    have e : (lbeg1 k cs copies rows q).length = rows.length := List.length_set
    obtain ⟨a, b⟩ := lbeg_fold L (lbeg1 k cs copies rows q) (fun y hy => by rw [e]; exact h y (List.mem_cons_of_mem _ hy))
    refine ⟨a.trans e, fun d => ?_⟩
    rw [List.foldl_cons, b d, List.filter_cons]
    unfold lbeg1
    rw [getD_set]
    by_cases c : q.1 = d
    · rw [if_pos ⟨c.symm, hq⟩, if_pos (by simpa using c), List.map_cons, List.flatMap_cons, List.map_append, List.append_assoc, c]
    · rw [if_neg (fun z => c z.1.symm), if_neg (by simpa using c)]
/-- ascending lists with the same members are the same -/
theorem asc_eq : ∀ {a b : List Nat}, a.Pairwise (· < ·) → b.Pairwise (· < ·) → (∀ x, x ∈ a ↔ x ∈ b) → a = b
  | [], [], _, _, _ => rfl
  | [], y :: b, _, _, h => absurd ((h y).mpr (List.mem_cons_self ..)) (by simp)
  | x :: a, [], _, _, h => absurd ((h x).mp (List.mem_cons_self ..)) (by simp)
  | x :: a, y :: b, ha, hb, h => by
    obtain ⟨ha1, ha2⟩ := List.pairwise_cons.mp ha
    obtain ⟨hb1, hb2⟩ := List.pairwise_cons.mp hb
    have e : x = y := by
      have hx := (h x).mp (List.mem_cons_self ..)
      have hy := (h y).mpr (List.mem_cons_self ..)
      rcases List.mem_cons.mp hx with z | z
      · exact z
      · rcases List.mem_cons.mp hy with w | w
        · exact w.symm
        · have := ha1 _ w
          have := hb1 _ z
          omega
    subst e
    congr 1
    refine asc_eq ha2 hb2 fun z => ⟨fun hz => ?_, fun hz => ?_⟩
    · rcases List.mem_cons.mp ((h z).mp (List.mem_cons_of_mem _ hz)) with w | w
      · have := ha1 _ hz
        omega
      · exact w
    · rcases List.mem_cons.mp ((h z).mpr (List.mem_cons_of_mem _ hz)) with w | w
      · have := hb1 _ hz
        omega
      · exact w
theorem lbegin_eq {L : List (Nat × Nat)} (C : CellsOk pages cs) (hs : L.Pairwise fun a b => a.1 < b.1 ∨ (a.1 = b.1 ∧ a.2 < b.2)) (hm : ∀ d p, (d, p) ∈ L ↔ (knownOf m cs d p).isSome = true) :
    L.foldl (lbeg1 (knownOf m cs) cs copies) (List.replicate (m + 1) []) = fullRows (knownOf m cs) (beginR cs pages copies m) := by
  have hk : ∀ d p, (d, p) ∈ L → d ≤ m ∧ p < pages := fun d p h => by
    obtain ⟨x, hx⟩ := Option.isSome_iff_exists.mp ((hm d p).mp h)
    obtain ⟨a, b⟩ := (known_all (m := m) C).2 d p x hx
    exact ⟨a, C.pg _ b⟩
  obtain ⟨e1, e2⟩ := lbeg_fold (k := knownOf m cs) (cs := cs) (copies := copies) L (List.replicate (m + 1) []) (fun q hq => by rw [List.length_replicate]; exact Nat.lt_succ_of_le (hk q.1 q.2 hq).1)
  refine rows_ext ?_ fun d => ?_
  · rw [e1, full_len, List.length_replicate]
    simp [beginR]
  · rw [e2 d, full_at]
    have e0 : (List.replicate (m + 1) ([] : List Held)).getD d [] = [] := by
      rw [List.getD_eq_getElem?_getD, List.getElem?_replicate]
      split <;> rfl
    rw [e0, List.nil_append]
    congr 1
    by_cases hd : d < m + 1
    · unfold beginR
      rw [getD_map_range hd]
      unfold missR
      have key : (L.filter fun q => decide (q.1 = d)).map (·.2) = (List.range pages).filter fun p => (knownOf m cs d p).isSome := by
        refine asc_eq ?_ ?_ fun p => ?_
        · rw [List.pairwise_map]
          refine List.Pairwise.imp_of_mem (fun {a b} ha hb h => ?_) (hs.filter _)
          have h1 := of_decide_eq_true (List.mem_filter.mp ha).2
          have h2 := of_decide_eq_true (List.mem_filter.mp hb).2
          rcases h with z | z
          · omega
          · exact z.2
        · exact List.pairwise_lt_range.filter _
        · constructor
          · intro h
            obtain ⟨q, hq, rfl⟩ := List.mem_map.mp h
            obtain ⟨hq1, hq2⟩ := List.mem_filter.mp hq
            have hq2 := of_decide_eq_true hq2
            obtain ⟨q1, q2⟩ := q
            simp only at hq2
            subst hq2
            exact List.mem_filter.mpr ⟨List.mem_range.mpr (hk _ _ hq1).2, (hm _ _).mp hq1⟩
          · intro h
            obtain ⟨h1, h2⟩ := List.mem_filter.mp h
            exact List.mem_map.mpr ⟨(d, p), List.mem_filter.mpr ⟨(hm d p).mpr h2, by simp⟩, rfl⟩
      rw [key]
      have fm : ∀ l : List Nat, (l.filter fun p => (knownOf m cs d p).isSome).flatMap (missP (knownOf m cs) cs copies d) = l.flatMap (missP (knownOf m cs) cs copies d) := by
        intro l
        induction l with
        | nil => rfl
        | cons p l ih =>
          rw [List.filter_cons, List.flatMap_cons]
          by_cases h : (knownOf m cs d p).isSome = true
          · rw [if_pos h, List.flatMap_cons, ih]
          · rw [if_neg h, ih]
            have : missP (knownOf m cs) cs copies d p = [] := if_neg h
            rw [this]
            rfl
      rw [fm]
    · have e3 : (beginR cs pages copies m).getD d [] = [] := by
        rw [List.getD_eq_getElem?_getD, List.getElem?_eq_none (by simp [beginR]; omega)]
        rfl
      rw [e3]
      have : (L.filter fun q => decide (q.1 = d)) = [] := by
        rw [List.filter_eq_nil_iff]
        intro q hq z
        have := of_decide_eq_true z
        have := (hk q.1 q.2 hq).1
        omega
      rw [this]
      rfl
end
/-! ### a page is put -/
def lputR (copies : Nat) (row : List Held) (d p : Nat) (what : Held) : List Held := (row.map fun h => if h.1 = d ∧ h.2.1 = p then what else h) ++ List.replicate (copies - (row.filter fun h => decide (h.1 = d ∧ h.2.1 = p)).length) what
theorem lput_row {k : KnownT} {copies d p c : Nat} {row : List Nat} : lputR copies (row.map (fullH k d)) d p (d, p, verOf k d p + 1, c) = (putR copies row p).map (fullH (putK1 k (d, p, c)) d) := by
  have h1 : fullH (putK1 k (d, p, c)) d p = (d, p, verOf k d p + 1, c) := by
    unfold fullH putK1
    rw [knSet_same]
    rfl
  have h2 : ∀ q, q ≠ p → fullH (putK1 k (d, p, c)) d q = fullH k d q := fun q n => by
    unfold fullH putK1
    rw [knSet_ne (fun z => n z.2)]
  unfold lputR putR
  rw [List.map_append, List.map_replicate, h1, List.map_map]
  congr 1
  · refine List.map_congr_left fun q _ => ?_
    show (if (fullH k d q).1 = d ∧ (fullH k d q).2.1 = p then _ else _) = _
    by_cases e : q = p
    · subst e
      rw [if_pos ⟨rfl, rfl⟩, h1]
    · rw [if_neg (fun z => e z.2), h2 q e]
  · congr 2
    induction row with
    | nil => rfl
    | cons q r ih =>
      rw [List.map_cons, List.filter_cons, List.count_cons]
      by_cases e : q = p
      · subst e
        rw [if_pos (decide_eq_true ⟨rfl, rfl⟩), List.length_cons, ih]
        simp
      · rw [if_neg (by simpa [fullH] using e), ih]
        simp [e]
theorem lput_new {k : KnownT} {d p c : Nat} : newSet (nOf k) d p ((nOf k d p).getD 0 + 1) = nOf (putK1 k (d, p, c)) := by
  rw [nOf_getD]
  exact nOf_set (x := (verOf k d p + 1, c))
theorem lput_rows {k : KnownT} {copies : Nat} {rows : List (List Nat)} {x : Nat × Nat × Nat} (hl : x.1 < rows.length) :
    (fullRows k rows).set x.1 (lputR copies ((fullRows k rows).getD x.1 []) x.1 x.2.1 (x.1, x.2.1, verOf k x.1 x.2.1 + 1, x.2.2)) = fullRows (putK1 k x) (putRs copies rows x) := by
  obtain ⟨d, p, c⟩ := x
  refine rows_ext (by rw [List.length_set, full_len, full_len]; exact (List.length_set).symm) fun d' => ?_
  rw [getD_set, full_len, full_at, full_at, full_at]
  show (if d' = d ∧ d < rows.length then _ else _) = ((rows.set d (putR copies (rows.getD d []) p)).getD d' []).map _
  rw [getD_set]
  by_cases e : d' = d
  · subst e
    rw [if_pos ⟨rfl, hl⟩, if_pos ⟨rfl, hl⟩]
    exact lput_row
  · rw [if_neg (fun z => e z.1), if_neg (fun z => e z.1)]
    refine List.map_congr_left fun q _ => ?_
    unfold fullH putK1
    rw [knSet_ne (fun z => e z.1)]
/-! ### cells are sealed anew -/
def llieB (n : NewT) : Option Held → Bool
  | some h => decide (n h.1 h.2.1 = some h.2.2.1)
  | none => false
theorem llie_eq {pages m : Nat} {s : StT} (G : Good pages m s) : ∀ o ∈ s.cells, llieB (nOf s.known) o = liveB s.known o := by
  intro o ho
  cases o with
  | none => rfl
  | some h =>
    show decide ((s.known h.1 h.2.1).map (·.1) = some h.2.2.1) = decide (s.known h.1 h.2.1 = some h.2.2)
    by_cases hm : h.1 ≤ m
    · obtain ⟨x, hx, hv, he⟩ := G.low h ho hm
      rw [hx]
      by_cases e : x.1 = h.2.2.1
      · have e2 := he e.symm
        rw [decide_eq_true (show (some x).map (·.1) = some h.2.2.1 by simpa using e)]
        refine (decide_eq_true ?_).symm
        rw [show h.2.2 = (h.2.2.1, h.2.2.2) from rfl, e2, ← e]
      · rw [decide_eq_false (show ¬ (some x).map (·.1) = some h.2.2.1 by simpa using e)]
        refine (decide_eq_false fun z => e ?_).symm
        cases z
        rfl
    · have e : s.known h.1 h.2.1 = none := by
        cases z : s.known h.1 h.2.1 with
        | none => rfl
        | some x => exact absurd (G.kn _ _ _ z).1 hm
      rw [e]
      rfl
def heldAt (cs : CellsT) (c : Nat) : Held := (cs.getD c none).getD (0, 0, 0, 0)
def ownOf (k : KnownT) (cs : CellsT) (picked : List Nat) (d : Nat) : List Nat := picked.filter fun c => liveAt k cs c && decide ((heldAt cs c).1 = d)
/-- the law's turn: rows of what waits -/
def lown (k : KnownT) (cs : CellsT) (picked : List Nat) (d : Nat) (s : List Held × TakenT) : List Held × TakenT :=
  (s.1 ++ ((ownOf k cs picked d).filter fun c => (s.2 c).isSome).map (heldAt cs), ((ownOf k cs picked d).filter fun c => !(s.2 c).isSome).foldl (fun t c => tkSet t c (heldAt cs c)) s.2)
def lbare1 (sh : Nat → Bool) (s : List Held × TakenT) (c : Nat) : List Held × TakenT :=
  match s.1 with
  | [] => s
  | h :: r => if (s.2 c).isSome || sh c then s else (r, tkSet s.2 c h)
def ltake (w : Way) (k : KnownT) (cs : CellsT) (picked : List Nat) (d : Nat) (s : List Held × TakenT) : List Held × TakenT := picked.foldl (lbare1 (shutB w k cs)) (lown k cs picked d s)
def lturn1 (w : Way) (k : KnownT) (cs : CellsT) (picked : List Nat) (s : List (List Held) × TakenT) (d : Nat) : List (List Held) × TakenT :=
  let r := ltake w k cs picked d (s.1.getD d [], s.2)
  (s.1.set d r.1, r.2)
section
variable {w : Way} {k : KnownT} {cs : CellsT} {d : Nat}
theorem lbare_eq {sh : Nat → Bool} : ∀ (l : List Nat) (s : List Nat × TakenT), l.foldl (lbare1 sh) (s.1.map (fullH k d), s.2) = ((l.foldl (bare1 k d sh) s).1.map (fullH k d), (l.foldl (bare1 k d sh) s).2)
  | [], _ => rfl
  | c :: l, s => by
    rw [List.foldl_cons, List.foldl_cons, ← lbare_eq l]
    congr 1
    unfold lbare1 bare1
    cases e : s.1 with
    | nil =>
      show (List.map (fullH k d) [], s.2) = (s.1.map _, s.2)
      rw [e]
    | cons p r =>
      show (if ((s.2 c).isSome || sh c) = true then ((p :: r).map (fullH k d), s.2) else (r.map (fullH k d), tkSet s.2 c (fullH k d p))) = ((if ((s.2 c).isSome || sh c) = true then s else (r, tkSet s.2 c (d, p, (k d p).getD (0, 0)))).1.map _, (if ((s.2 c).isSome || sh c) = true then s else (r, tkSet s.2 c (d, p, (k d p).getD (0, 0)))).2)
      by_cases h : ((s.2 c).isSome || sh c) = true
      · rw [if_pos h, if_pos h, e]
      · rw [if_neg h, if_neg h]
        rfl
theorem lown_eq : ∀ (l : List Nat) (s : List Nat × TakenT), l.Nodup → lown k cs l d (s.1.map (fullH k d), s.2) = (((liveItems k cs l).foldl (again1 d) s).1.map (fullH k d), ((liveItems k cs l).foldl (again1 d) s).2)
  | [], s, _ => by
    unfold lown ownOf liveItems
    simp
  | c :: l, s, nd => by
    obtain ⟨n1, n2⟩ := List.nodup_cons.mp nd
    unfold liveItems
    rw [List.filter_cons]
    by_cases lv : liveAt k cs c = true
    · rw [if_pos lv, List.map_cons, List.foldl_cons]
      show _ = (((liveItems k cs l).foldl (again1 d) (again1 d s (c, heldAt cs c))).1.map _, ((liveItems k cs l).foldl (again1 d) (again1 d s (c, heldAt cs c))).2)
      rw [← lown_eq l _ n2]
      have hk : k (heldAt cs c).1 (heldAt cs c).2.1 = some (heldAt cs c).2.2 := by
        unfold liveAt at lv
        unfold heldAt
        cases e : cs.getD c none with
        | none =>
          rw [e] at lv
          cases lv
        | some g =>
          rw [e] at lv
          exact of_decide_eq_true lv
      unfold again1
      by_cases mine : (heldAt cs c).1 = d
      · rw [if_pos mine]
        have own : ownOf k cs (c :: l) d = c :: ownOf k cs l d := by
          unfold ownOf
          rw [List.filter_cons, if_pos (by rw [lv, decide_eq_true mine] <;> rfl)]
        have fl : fullH k d (heldAt cs c).2.1 = heldAt cs c := by
          unfold fullH
          rw [← mine, hk]
          rfl
        by_cases tk : (s.2 c).isSome = true
        · rw [if_pos tk]
          unfold lown
          rw [own, List.filter_cons, List.filter_cons, if_pos tk, if_neg (by simp [tk]), List.map_cons, List.map_append, List.append_assoc]
          show _ = (_ ++ ([fullH k d (heldAt cs c).2.1] ++ _), _)
          rw [fl]
          rfl
        · rw [if_neg tk]
          unfold lown
          rw [own, List.filter_cons, List.filter_cons, if_neg tk, if_pos (by simpa using tk), List.foldl_cons]
          have other : ∀ c' ∈ ownOf k cs l d, tkSet s.2 c (heldAt cs c) c' = s.2 c' := fun c' h => tkSet_ne fun z => n1 (z ▸ (List.mem_filter.mp h).1)
          have f1 : ((ownOf k cs l d).filter fun c' => (tkSet s.2 c (heldAt cs c) c').isSome) = (ownOf k cs l d).filter fun c' => (s.2 c').isSome := List.filter_congr fun c' h => by rw [other c' h]
          have f2 : ((ownOf k cs l d).filter fun c' => !(tkSet s.2 c (heldAt cs c) c').isSome) = (ownOf k cs l d).filter fun c' => !(s.2 c').isSome := List.filter_congr fun c' h => by rw [other c' h]
          show _ = (_ ++ ((ownOf k cs l d).filter fun c' => (tkSet s.2 c (heldAt cs c) c').isSome).map _, ((ownOf k cs l d).filter fun c' => !(tkSet s.2 c (heldAt cs c) c').isSome).foldl _ (tkSet s.2 c (heldAt cs c)))
          rw [f1, f2]
      · rw [if_neg mine]
        have own : ownOf k cs (c :: l) d = ownOf k cs l d := by
          unfold ownOf
          rw [List.filter_cons, if_neg (by simp [mine])]
        unfold lown
        rw [own]
    · rw [if_neg lv]
      show _ = (((liveItems k cs l).foldl (again1 d) s).1.map _, ((liveItems k cs l).foldl (again1 d) s).2)
      rw [← lown_eq l s n2]
      have own : ownOf k cs (c :: l) d = ownOf k cs l d := by
        unfold ownOf
        rw [List.filter_cons, if_neg (by simp [lv])]
      unfold lown
      rw [own]
theorem ltake_eq {picked : List Nat} {s : List Nat × TakenT} (nd : picked.Nodup) : ltake w k cs picked d (s.1.map (fullH k d), s.2) = ((takeD w k cs picked d s).1.map (fullH k d), (takeD w k cs picked d s).2) := by
  unfold ltake takeD
  rw [lown_eq picked s nd]
  exact lbare_eq _ _
theorem lturn_eq {picked : List Nat} {s : List (List Nat) × TakenT} (nd : picked.Nodup) : lturn1 w k cs picked (fullRows k s.1, s.2) d = (fullRows k (turn1 w k cs picked s d).1, (turn1 w k cs picked s d).2) := by
  unfold lturn1 turn1
  show ((fullRows k s.1).set d (ltake w k cs picked d ((fullRows k s.1).getD d [], s.2)).1, (ltake w k cs picked d ((fullRows k s.1).getD d [], s.2)).2) = _
  rw [full_at, ltake_eq (s := (s.1.getD d [], s.2)) nd]
  refine Prod.ext (rows_ext (by rw [List.length_set, full_len, full_len, List.length_set]) fun d' => ?_) rfl
  show ((fullRows k s.1).set d _).getD d' [] = (fullRows k (s.1.set d _)).getD d' []
  rw [getD_set, full_at, full_at, full_len, getD_set]
  split
  · rename_i h
    rw [h.1]
  · rfl
theorem lturns_eq {picked : List Nat} (nd : picked.Nodup) : ∀ (l : List Nat) (s : List (List Nat) × TakenT), l.foldl (lturn1 w k cs picked) (fullRows k s.1, s.2) = (fullRows k (l.foldl (turn1 w k cs picked) s).1, (l.foldl (turn1 w k cs picked) s).2)
  | [], _ => rfl
  | d :: l, s => by
    rw [List.foldl_cons, List.foldl_cons, lturn_eq nd]
    exact lturns_eq nd l _
end
end Hd

set_option maxHeartbeats 4000000
/-! how a store lies on the heap -/
namespace Hd
open PySem PySem.Spec PyProof.Rows L2 Evl
abbrev nV (n : Nat) : V := .int (n : Int)
def heldP (h : Held) : PyData := .tuple [intP h.1, intP h.2.1, intP h.2.2.1, intP h.2.2.2]
def cellP : Option Held → PyData
  | some h => heldP h
  | none => .none
def pairP (x : Nat × Nat) : PyData := .tuple [intP x.1, intP x.2]
def keyOf (d p : Nat) : List Key := [.inl (d : Int), .inl (p : Int)]
theorem keyOf_inj {d p d' p' : Nat} (e : keyOf d p = keyOf d' p') : d = d' ∧ p = p' := by
  unfold keyOf at e
  injection e with e1 e2
  injection e2 with e2 _
  injection e1 with e1
  injection e2 with e2
  exact ⟨Int.ofNat.inj e1, Int.ofNat.inj e2⟩
/-! ### frames -/
/-- all but what S names stays -/
def Kx (S : Addr → Prop) (H H' : Hp) : Prop := ∀ b o, ¬ S b → H b = some o → H' b = some o
section
variable {S T : Addr → Prop} {H H1 H2 : Hp}
theorem Kx.refl : Kx S H H := fun _ _ _ h => h
theorem Kx.trans (a : Kx S H H1) (b : Kx S H1 H2) : Kx S H H2 := fun c o n h => b c o n (a c o n h)
theorem Kx.ex (e : Ex H H1) : Kx S H H1 := fun c o _ h => e c o h
theorem Kx.toEx (k : Kx S H H1) (n : ∀ b, S b → H b = none) : Ex H H1 := fun b o h => k b o (fun s => by rw [n b s] at h; cases h) h
theorem Kx.wk (k : Kx S H H1) (h : ∀ b, S b → T b) : Kx T H H1 := fun b o n e => k b o (fun s => n (h b s)) e
theorem Kx.put {D : Addr} {o : HO} (s : S D) : Kx S H (upd H D o) := fun b u n h => by
  rw [upd_ne (fun e => n (by rw [e]; exact s))]
  exact h
theorem Kx.putF {D : Addr} {o : HO} (k : Kx S H H1) (n : H D = none) : Kx S H (upd H1 D o) := fun b u m h => by
  rw [upd_ne (ne_of_none h n)]
  exact k b u m h
theorem Kx.kt (k : Kx S H H1) (n : ∀ b, S b → ∀ xs, H b ≠ some (.tup xs)) : Kt H H1 := fun b xs h => k b _ (fun s => n b s xs h) h
end
/-- a fresh thing changes -/
theorem Kx.thenF {S : Addr → Prop} {H H1 H2 : Hp} {D : Addr} (k : Kx S H H1) (k2 : Kx (· = D) H1 H2) (n : H D = none) : Kx S H H2 := fun b o s h => k2 b o (fun e => by rw [e, n] at h; cases h) (k b o s h)
theorem Ex.put {H H1 : Hp} {D : Addr} {o : HO} (e : Ex H H1) (n : H D = none) : Ex H (upd H1 D o) := fun b u h => by
  rw [upd_ne (ne_of_none h n)]
  exact e b u h
theorem Ex.none {H H1 : Hp} {D : Addr} (e : Ex H H1) (n : H1 D = none) : H D = none := by
  cases h : H D with
  | none => rfl
  | some o =>
    rw [e D o h] at n
    cases n
/-! ### data at hand -/
theorem tvTup {H : Hp} {v : V} {ds : List PyData} (h : Tv H v (.tuple ds)) : ∃ a xs, v = .ref a ∧ H a = some (.tup xs) ∧ TvAll H xs ds := by
  cases h with
  | tup ha all => exact ⟨_, _, rfl, ha, all⟩
theorem tvInt {H : Hp} {v : V} {n : Nat} (h : Tv H v (intP n)) : v = nV n := by
  have h' : Tv H v (.int (n : Int)) := h
  cases h'
  rfl
theorem tvNone {H : Hp} {v : V} (h : Tv H v .none) : v = .non := by
  cases h
  rfl
theorem tvPair {H : Hp} {v : V} {x : Nat × Nat} (h : Tv H v (pairP x)) : ∃ t, v = .ref t ∧ H t = some (.tup [nV x.1, nV x.2]) := by
  obtain ⟨t, xs, rfl, ht, all⟩ := tvTup h
  cases all with
  | cons h1 h2 =>
    cases h2 with
    | cons h3 h4 =>
      cases h4
      obtain rfl := tvInt h1
      obtain rfl := tvInt h3
      exact ⟨t, rfl, ht⟩
theorem tvHeld {H : Hp} {v : V} {x : Held} (h : Tv H v (heldP x)) : ∃ t, v = .ref t ∧ H t = some (.tup [nV x.1, nV x.2.1, nV x.2.2.1, nV x.2.2.2]) := by
  obtain ⟨t, xs, rfl, ht, all⟩ := tvTup h
  cases all with
  | cons h1 h2 =>
    cases h2 with
    | cons h3 h4 =>
      cases h4 with
      | cons h5 h6 =>
        cases h6 with
        | cons h7 h8 =>
          cases h8
          obtain rfl := tvInt h1
          obtain rfl := tvInt h3
          obtain rfl := tvInt h5
          obtain rfl := tvInt h7
          exact ⟨t, rfl, ht⟩
theorem ofPair {H : Hp} {t : Addr} {a b : Nat} (h : H t = some (.tup [nV a, nV b])) : Tv H (.ref t) (pairP (a, b)) := .tup h (.cons (.int _) (.cons (.int _) .nil))
theorem ofHeld {H : Hp} {t : Addr} {x : Held} (h : H t = some (.tup [nV x.1, nV x.2.1, nV x.2.2.1, nV x.2.2.2])) : Tv H (.ref t) (heldP x) := .tup h (.cons (.int _) (.cons (.int _) (.cons (.int _) (.cons (.int _) .nil))))
theorem tvAt {α : Type} {H : Hp} {xs : List V} {L : List α} {f : α → PyData} {i : Nat} {v : V} (h : TvAll H xs (L.map f)) (e : xs[i]? = some v) : ∃ x, L[i]? = some x ∧ Tv H v (f x) := by
  obtain ⟨d, a, b⟩ := h.at_ e
  rw [List.getElem?_map] at a
  obtain ⟨x, hx, rfl⟩ := Option.map_eq_some_iff.mp a
  exact ⟨x, hx, b⟩
theorem tvAtD {α : Type} {H : Hp} {xs : List V} {L : List α} {f : α → PyData} {i : Nat} {x : α} (h : TvAll H xs (L.map f)) (e : L[i]? = some x) : ∃ v, xs[i]? = some v ∧ Tv H v (f x) := by
  have hl : i < xs.length := by
    rw [h.len, List.length_map]
    exact (List.getElem?_eq_some_iff.mp e).1
  obtain ⟨y, hy, ht⟩ := tvAt h (List.getElem?_eq_getElem hl)
  rw [e] at hy
  cases hy
  exact ⟨xs[i], List.getElem?_eq_getElem hl, ht⟩
theorem takeSnoc {α : Type} {L : List α} {i : Nat} {x : α} (h : L[i]? = some x) : L.take (i + 1) = L.take i ++ [x] := by rw [List.take_succ, h] <;> rfl
theorem foldTake {α β : Type} {f : β → α → β} {z : β} {L : List α} {i : Nat} {x : α} (h : L[i]? = some x) : (L.take (i + 1)).foldl f z = f ((L.take i).foldl f z) x := by
  rw [takeSnoc h, List.foldl_append]
  rfl
theorem rangeAt {n i : Nat} (h : i < n) : (List.range n)[i]? = some i := List.getElem?_range h
theorem takeLen {α : Type} {L : List α} {n : Nat} (h : n = L.length) : L.take n = L := by rw [h, List.take_length]
/-! ### what is known: a dict with pairs for keys -/
def KnV (H : Hp) : Option (Nat × Nat) → Option V → Prop
  | some x, some v => Tv H v (pairP x)
  | none, none => True
  | _, _ => False
theorem KnV.kt {H H1 : Hp} {x : Option (Nat × Nat)} {o : Option V} (h : KnV H x o) (k : Kt H H1) : KnV H1 x o := by
  cases x with
  | none =>
    cases o with
    | none => trivial
    | some v => exact h.elim
  | some x =>
    cases o with
    | none => exact h.elim
    | some v => exact Tv.mv (show Tv H v (pairP x) from h) k
structure KnAt (H : Hp) (k : Addr) (kn : KnownT) (n : Nat) : Prop where
  go : ∃ kvs : List (List Key × V), H k = some (.dT kvs) ∧ kvs.length ≤ n ∧ ∀ d p, KnV H (kn d p) (valV kvs (keyOf d p))
theorem KnAt.mv {H H1 : Hp} {k : Addr} {kn : KnownT} {n : Nat} (h : KnAt H k kn n) (t : Kt H H1) (e : ∀ o, H k = some o → H1 k = some o) : KnAt H1 k kn n := by
  obtain ⟨kvs, a, b, c⟩ := h.go
  exact ⟨kvs, e _ a, b, fun d p => (c d p).kt t⟩
theorem KnAt.ex {H H1 : Hp} {k : Addr} {kn : KnownT} {n : Nat} (h : KnAt H k kn n) (e : Ex H H1) : KnAt H1 k kn n := h.mv (Kt.ex e) fun o => e k o
theorem KnAt.le {H : Hp} {k : Addr} {kn : KnownT} {n m : Nat} (h : KnAt H k kn n) (l : n ≤ m) : KnAt H k kn m := let ⟨kvs, a, b, c⟩ := h.go; ⟨kvs, a, Nat.le_trans b l, c⟩
theorem KnAt.is {H : Hp} {k : Addr} {kn : KnownT} {n : Nat} (h : KnAt H k kn n) : IsD H k := let ⟨kvs, a, _⟩ := h.go; .inr ⟨kvs, .inl a⟩
theorem KnAt.notup {H : Hp} {k : Addr} {kn : KnownT} {n : Nat} (h : KnAt H k kn n) (xs : List V) : H k ≠ some (.tup xs) := fun e => by
  obtain ⟨kvs, a, _⟩ := h.go
  rw [a] at e
  cases e
/-- a look at a page's newest -/
theorem KnAt.get {H : Hp} {k b : Addr} {kn : KnownT} {n d p : Nat} (h : KnAt H k kn n) (hb : H b = some (.tup [nV d, nV p])) : ∃ o, DGet H k (.ref b) o ∧ KnV H (kn d p) o := by
  obtain ⟨kvs, a, _, c⟩ := h.go
  exact ⟨_, DGet.t (k := keyOf d p) a hb, c d p⟩
theorem KnAt.put {H : Hp} {k b : Addr} {kn : KnownT} {n d p : Nat} {x : Nat × Nat} {v : V} (h : KnAt H k kn n) (hb : H b = some (.tup [nV d, nV p])) (hv : Tv H v (pairP x)) (hn : n < sizeLine) :
    ∃ H', DPut H k (.ref b) v H' ∧ KnAt H' k (knSet kn d p x) (n + 1) ∧ Kx (· = k) H H' := by
  obtain ⟨kvs, a, l, c⟩ := h.go
  have kx : Kx (· = k) H (upd H k (.dT (putK kvs (keyOf d p) v))) := Kx.put rfl
  have kt : Kt H (upd H k (.dT (putK kvs (keyOf d p) v))) := kx.kt fun b e xs => e ▸ h.notup xs
  refine ⟨_, DPut.t (k := keyOf d p) a hb (Nat.lt_of_le_of_lt l hn), ⟨putK kvs (keyOf d p) v, upd_same, Nat.le_trans (DSub.putK_len _ _ _) (Nat.succ_le_succ l), fun d' p' => ?_⟩, kx⟩
  rw [valV_put]
  unfold knSet
  by_cases e : d' = d ∧ p' = p
  · rw [if_pos e, if_pos (by rw [e.1, e.2])]
    exact hv.mv kt
  · rw [if_neg e, if_neg (fun z => e (keyOf_inj z))]
    exact (c d' p').kt kt
/-! ### what takes the cells: a dict with cells for keys -/
def TkV (H : Hp) : Option Held → Option V → Prop
  | some x, some v => Tv H v (heldP x)
  | none, none => True
  | _, _ => False
theorem TkV.kt {H H1 : Hp} {x : Option Held} {o : Option V} (h : TkV H x o) (k : Kt H H1) : TkV H1 x o := by
  cases x with
  | none =>
    cases o with
    | none => trivial
    | some v => exact h.elim
  | some x =>
    cases o with
    | none => exact h.elim
    | some v => exact Tv.mv (show Tv H v (heldP x) from h) k
theorem TkV.some_iff {H : Hp} {x : Option Held} {o : Option V} (h : TkV H x o) : o.isSome = x.isSome := by
  cases x <;> cases o <;> first | rfl | exact h.elim
/-- as an item of cells -/
theorem TkV.cell {H : Hp} {x : Option Held} {o : Option V} (h : TkV H x o) : Tv H (o.getD .non) (cellP x) := by
  cases x with
  | none =>
    cases o with
    | none => exact .non
    | some v => exact h.elim
  | some x =>
    cases o with
    | none => exact h.elim
    | some v => exact h
structure TkAt (H : Hp) (k : Addr) (t : TakenT) (n : Nat) : Prop where
  go : ∃ kvs : List (Key × V), H k = some (.dK kvs) ∧ kvs.length ≤ n ∧ ∀ c : Nat, TkV H (t c) (valV kvs (.inl (c : Int) : Key))
theorem TkAt.mv {H H1 : Hp} {k : Addr} {t : TakenT} {n : Nat} (h : TkAt H k t n) (kt : Kt H H1) (e : ∀ o, H k = some o → H1 k = some o) : TkAt H1 k t n := by
  obtain ⟨kvs, a, b, c⟩ := h.go
  exact ⟨kvs, e _ a, b, fun d => (c d).kt kt⟩
theorem TkAt.ex {H H1 : Hp} {k : Addr} {t : TakenT} {n : Nat} (h : TkAt H k t n) (e : Ex H H1) : TkAt H1 k t n := h.mv (Kt.ex e) fun o => e k o
theorem TkAt.le {H : Hp} {k : Addr} {t : TakenT} {n m : Nat} (h : TkAt H k t n) (l : n ≤ m) : TkAt H k t m := let ⟨kvs, a, b, c⟩ := h.go; ⟨kvs, a, Nat.le_trans b l, c⟩
theorem TkAt.is {H : Hp} {k : Addr} {t : TakenT} {n : Nat} (h : TkAt H k t n) : IsD H k := let ⟨kvs, a, _⟩ := h.go; .inl ⟨kvs, .inl a⟩
theorem TkAt.notup {H : Hp} {k : Addr} {t : TakenT} {n : Nat} (h : TkAt H k t n) (xs : List V) : H k ≠ some (.tup xs) := fun e => by
  obtain ⟨kvs, a, _⟩ := h.go
  rw [a] at e
  cases e
theorem TkAt.get {H : Hp} {k : Addr} {t : TakenT} {n : Nat} (h : TkAt H k t n) (c : Nat) : ∃ o, DGet H k (nV c) o ∧ TkV H (t c) o := by
  obtain ⟨kvs, a, _, g⟩ := h.go
  exact ⟨_, DGet.k (k := .inl (c : Int)) a, g c⟩
theorem TkAt.put {H : Hp} {k : Addr} {t : TakenT} {n c : Nat} {x : Held} {v : V} (h : TkAt H k t n) (hv : Tv H v (heldP x)) (hn : n < sizeLine) :
    ∃ H', DPut H k (nV c) v H' ∧ TkAt H' k (tkSet t c x) (n + 1) ∧ Kx (· = k) H H' := by
  obtain ⟨kvs, a, l, g⟩ := h.go
  have kx : Kx (· = k) H (upd H k (.dK (putK kvs (.inl (c : Int)) v))) := Kx.put rfl
  have kt : Kt H (upd H k (.dK (putK kvs (.inl (c : Int)) v))) := kx.kt fun b e xs => e ▸ h.notup xs
  refine ⟨_, DPut.k (k := .inl (c : Int)) a (Nat.lt_of_le_of_lt l hn), ⟨putK kvs (.inl (c : Int)) v, upd_same, Nat.le_trans (DSub.putK_len _ _ _) (Nat.succ_le_succ l), fun c' => ?_⟩, kx⟩
  rw [valV_put]
  unfold tkSet
  by_cases e : c' = c
  · rw [if_pos e, if_pos (by rw [e])]
    exact hv.mv kt
  · rw [if_neg e, if_neg (fun z => e (by injection z with z; exact Int.ofNat.inj z))]
    exact (g c').kt kt
end Hd

set_option maxHeartbeats 4000000
/-! pairs and cells as data: equal or not -/
namespace Hd
open PySem PySem.Spec PyProof.Rows L2 Evl
theorem Tv.dp' {H : Hp} {v : V} {d : PyData} (K : PySem.W.Frag) (h : Tv H v d) : Dp K H v d := Dv.dp K d v (Tv.dv 0 d v h)
theorem TvAll.dp' {H : Hp} {vs : List V} {ds : List PyData} (K : PySem.W.Frag) (h : TvAll H vs ds) : DpAll K H vs ds := Dv.dpAll K ds vs (Tv.dvAll 0 ds vs h)
theorem shaped_pair (x : Nat × Nat) : SeqAt.shaped (pairP x) = true := rfl
theorem shaped_held (x : Held) : SeqAt.shaped (heldP x) = true := rfl
theorem shaped_int3 (a b c : Nat) : SeqAt.shaped (.tuple [intP a, intP b, intP c]) = true := rfl
theorem eqv_int (a b : Nat) : PyData.eqv (intP a) (intP b) = decide (a = b) := by
  show ((a : Int) == (b : Int)) = _
  by_cases h : a = b
  · subst h
    simp
  · rw [decide_eq_false h, beq_eq_false_iff_ne]
    omega
theorem eqv_pair (x y : Nat × Nat) : PyData.eqv (pairP x) (pairP y) = decide (x = y) := by
  show (PyData.eqv (intP x.1) (intP y.1) && (PyData.eqv (intP x.2) (intP y.2) && true)) = _
  rw [eqv_int, eqv_int, Bool.and_true]
  obtain ⟨a, b⟩ := x
  obtain ⟨c, d⟩ := y
  rw [Bool.eq_iff_iff]
  simp
theorem eqv_int3 (a b c d e f : Nat) : PyData.eqv (.tuple [intP a, intP b, intP c]) (.tuple [intP d, intP e, intP f]) = decide (a = d ∧ b = e ∧ c = f) := by
  show (PyData.eqv (intP a) (intP d) && (PyData.eqv (intP b) (intP e) && (PyData.eqv (intP c) (intP f) && true))) = _
  rw [eqv_int, eqv_int, eqv_int, Bool.and_true, Bool.eq_iff_iff]
  simp
theorem shaped_pairs : ∀ l : List (Nat × Nat), SeqAt.shaped (.list (l.map pairP)) = true := fun l => by
  have h : PyData.canLayAll0 (l.map pairP) = true ∧ PyData.depthAll (l.map pairP) ≤ 1 := by
    induction l with
    | nil => exact ⟨rfl, Nat.zero_le _⟩
    | cons x l ih =>
      refine ⟨?_, ?_⟩
      · show ((pairP x).canLay0 && PyData.canLayAll0 (l.map pairP)) = true
        rw [ih.1]
        rfl
      · show Nat.max (pairP x).depth (PyData.depthAll (l.map pairP)) ≤ 1
        exact Nat.max_le.mpr ⟨Nat.le_refl _, ih.2⟩
  unfold SeqAt.shaped
  rw [Bool.and_eq_true]
  refine ⟨h.1, decide_eq_true ?_⟩
  have := h.2
  show PyData.depthAll (l.map pairP) + 1 ≤ 64
  omega
theorem count_pair (x : Nat × Nat) : ∀ l : List (Nat × Nat), (l.map pairP).countP (fun z => PyData.eqv z (pairP x)) = l.count x
  | [] => rfl
  | y :: l => by
    rw [List.map_cons, List.countP_cons, List.count_cons, count_pair x l, eqv_pair]
    by_cases h : y = x
    · subst h
      simp
    · simp [h]
theorem rep_one (k : Nat) (v : V) : (List.replicate k [v]).flatten = List.replicate k v := by
  induction k with
  | zero => rfl
  | succ k ih => rw [List.replicate_succ, List.flatten_cons, ih, List.replicate_succ] <;> rfl
theorem rep_map (k p : Nat) : List.replicate k (nV p) = (List.replicate k p).map nV := by rw [List.map_replicate]
end Hd

set_option maxHeartbeats 4000000
/-! a store through a life -/
namespace Hd
theorem takeSnocR {α : Type} {L : List α} {i : Nat} {x : α} (h : L[i]? = some x) : L.take (i + 1) = L.take i ++ [x] := by rw [List.take_succ, h] <;> rfl
structure RunL (d p : Nat) (L : LifeT) : Prop where
  six : L.length ≤ 6
  sess : ∀ s ∈ L, s.1 < d ∧ ∀ m ∈ s.2, m.length ≤ 6 ∧ ∀ x ∈ m, x.1 ≤ s.1 ∧ x.2.1 < p
  len : lenT L ≤ 40
abbrev HistT := List (CellsT × List Nat)
def momT (w : Way) (copies : Nat) (sets : Nat → List Nat) (s : StT × HistT) (m : MomT) : StT × HistT :=
  let s1 := m.foldl (StT.put copies) s.1
  let dr := sets (s.2.length - 1)
  (s1.seal w dr, s.2 ++ [((s1.seal w dr).cells, s1.fresh w dr)])
def sessT (w : Way) (pages copies : Nat) (sets : Nat → List Nat) (s : StT × HistT) (x : Nat × StoryT) : StT × HistT := x.2.foldl (momT w copies sets) (s.1.begin pages copies x.1, s.2)
def st0 (n : Nat) : StT := ⟨List.replicate n none, kn0, []⟩
def runT (n : Nat) (w : Way) (pages copies : Nat) (sets : Nat → List Nat) (L : LifeT) : StT × HistT := L.foldl (sessT w pages copies sets) (st0 n, [(List.replicate n none, [])])
def setOf (n k : Nat) (cs : List Nat) (i : Nat) : List Nat := drawN n k (cs.getD i 0) 0
theorem asc_nd : ∀ (l : List Nat) (c hi : Nat), asc c hi l = true → l.Nodup ∧ (∀ x ∈ l, c ≤ x ∧ x < hi)
  | [], _, _, _ => ⟨List.nodup_nil, fun _ h => by cases h⟩
  | x :: r, c, hi, h => by
    unfold asc at h
    simp only [Bool.and_eq_true, decide_eq_true_eq] at h
    obtain ⟨h1, h2, h3⟩ := h
    obtain ⟨a, b⟩ := asc_nd r _ _ h3
    refine ⟨List.nodup_cons.mpr ⟨fun z => by have := (b x z).1; omega, a⟩, fun y hy => ?_⟩
    rcases List.mem_cons.mp hy with e | e
    · subst e
      exact ⟨h1, h2⟩
    · have := b y e
      omega
theorem draw_ok {n k a : Nat} (h : a < nck n k) : (drawN n k a 0).Nodup ∧ (∀ x ∈ drawN n k a 0, x < n) ∧ (drawN n k a 0).length = k := by
  have hm : drawN n k a 0 ∈ setsN n k 0 := List.mem_of_getElem? (drawN_at n k a 0 h)
  obtain ⟨h1, h2⟩ := setsN_asc n k 0 _ hm
  obtain ⟨h3, h4⟩ := asc_nd _ _ _ h2
  exact ⟨h3, fun x hx => by have := (h4 x hx).2; omega, h1⟩
/-! ### bounds -/
def RowsLe (rows : List (List Nat)) (B : Nat) : Prop := ∀ r ∈ rows, r.length ≤ B
theorem RowsLe.mono {rows : List (List Nat)} {B B' : Nat} (h : RowsLe rows B) (l : B ≤ B') : RowsLe rows B' := fun r hr => Nat.le_trans (h r hr) l
theorem getD_le {rows : List (List Nat)} {B d : Nat} (h : RowsLe rows B) : (rows.getD d []).length ≤ B := by
  rw [List.getD_eq_getElem?_getD]
  cases e : rows[d]? with
  | none => exact Nat.zero_le _
  | some x => exact h x (List.mem_of_getElem? e)
theorem put_le {copies B : Nat} {s : StT} {x : Nat × Nat × Nat} (h : RowsLe s.rows B) : RowsLe (s.put copies x).rows (B + copies) := fun r hr => by
  have hr' : r ∈ s.rows.set x.1 (putR copies (s.rows.getD x.1 []) x.2.1) := hr
  rcases List.mem_or_eq_of_mem_set hr' with z | z
  · exact Nat.le_trans (h r z) (Nat.le_add_right _ _)
  · rw [z]
    unfold putR
    rw [List.length_append, List.length_replicate]
    have := getD_le (d := x.1) h
    omega
theorem puts_le {copies : Nat} : ∀ (m : MomT) (s : StT) (B : Nat), RowsLe s.rows B → RowsLe (m.foldl (StT.put copies) s).rows (B + copies * m.length)
  | [], s, B, h => by simpa using h
  | x :: m, s, B, h => by
    have := puts_le (copies := copies) m (s.put copies x) (B + copies) (put_le h)
    rw [List.length_cons, Nat.mul_succ]
    rw [List.foldl_cons]
    exact this.mono (by omega)
theorem puts_good {pages copies u : Nat} (hc : 1 ≤ copies) : ∀ (m : MomT) (s : StT), Good pages u s → (∀ x ∈ m, x.1 ≤ u ∧ x.2.1 < pages) → Good pages u (m.foldl (StT.put copies) s)
  | [], _, G, _ => G
  | x :: m, s, G, h => puts_good hc m _ (put_good G hc (h x (List.mem_cons_self ..)).1 (h x (List.mem_cons_self ..)).2) fun y hy => h y (List.mem_cons_of_mem _ hy)
theorem puts_cells {copies : Nat} : ∀ (m : MomT) (s : StT), (m.foldl (StT.put copies) s).cells = s.cells
  | [], _ => rfl
  | x :: m, s => puts_cells m (s.put copies x)
theorem missR_le {k : KnownT} {cs : CellsT} {pages copies d : Nat} : (missR k cs pages copies d).length ≤ pages * copies := by
  unfold missR
  induction pages with
  | zero => exact Nat.zero_le _
  | succ n ih =>
    rw [List.range_succ, List.flatMap_append, List.length_append, Nat.succ_mul]
    have : ([n].flatMap (missP k cs copies d)).length ≤ copies := by
      rw [show [n].flatMap (missP k cs copies d) = missP k cs copies d n by simp]
      unfold missP
      split
      · rw [List.length_replicate]
        exact Nat.sub_le _ _
      · exact Nat.zero_le _
    omega
theorem begin_le {pages copies m : Nat} {s : StT} : RowsLe (s.begin pages copies m).rows (pages * copies) := fun r hr => by
  have hr' : r ∈ (List.range (m + 1)).map (missR (knownOf m s.cells) s.cells pages copies) := hr
  obtain ⟨d, _, rfl⟩ := List.mem_map.mp hr'
  exact missR_le
theorem againR (d : Nat) : ∀ (l : List (Nat × Held)) (s : List Nat × TakenT), (l.foldl (again1 d) s).1.length ≤ s.1.length + l.length
  | [], s => Nat.le_refl _
  | x :: l, s => by
    rw [List.foldl_cons, List.length_cons]
    have h1 := againR d l (again1 d s x)
    have h2 : (again1 d s x).1.length ≤ s.1.length + 1 := by
      unfold again1
      split
      · split <;> simp
      · simp
    omega
theorem bareR (k : KnownT) (d : Nat) (sh : Nat → Bool) : ∀ (l : List Nat) (s : List Nat × TakenT), (l.foldl (bare1 k d sh) s).1.length ≤ s.1.length
  | [], _ => Nat.le_refl _
  | c :: l, s => by
    refine Nat.le_trans (bareR k d sh l _) ?_
    unfold bare1
    cases e : s.1 with
    | nil =>
      show s.1.length ≤ _
      rw [e]
      exact Nat.le_refl _
    | cons x r =>
      by_cases z : ((s.2 c).isSome || sh c) = true
      · simp only [z, if_true]
        rw [e]
        exact Nat.le_refl _
      · simp only [z, if_false, Bool.false_eq_true]
        exact Nat.le_succ _
theorem turn_le2 {w : Way} {k : KnownT} {cs : CellsT} {fresh : List Nat} {s : List (List Nat) × TakenT} {d B : Nat} (h : RowsLe s.1 B) : RowsLe (turn1 w k cs fresh s d).1 (B + fresh.length) := by
  intro r hr
  have hr' : r ∈ s.1.set d (takeD w k cs fresh d (s.1.getD d [], s.2)).1 := hr
  rcases List.mem_or_eq_of_mem_set hr' with z | z
  · exact Nat.le_trans (h r z) (Nat.le_add_right _ _)
  · rw [z]
    unfold takeD
    refine Nat.le_trans (bareR _ _ _ _ _) (Nat.le_trans (againR _ _ _) (Nat.add_le_add (getD_le h) ?_))
    unfold liveItems
    rw [List.length_map]
    exact List.length_filter_le _ _
theorem turns_le2 {w : Way} {k : KnownT} {cs : CellsT} {fresh : List Nat} : ∀ (l : List Nat) (s : List (List Nat) × TakenT) (B : Nat), RowsLe s.1 B → RowsLe (l.foldl (turn1 w k cs fresh) s).1 (B + fresh.length * l.length)
  | [], s, B, h => by simpa using h
  | d :: l, s, B, h => by
    have := turns_le2 (w := w) (k := k) (cs := cs) (fresh := fresh) l (turn1 w k cs fresh s d) (B + fresh.length) (turn_le2 h)
    rw [List.length_cons, Nat.mul_succ]
    exact this.mono (by omega)
theorem order_len {w : Way} {n : Nat} : (orderOf w n).length = n := by
  unfold orderOf
  split <;> simp
theorem fresh_len {w : Way} {s : StT} {drawn : List Nat} : (s.fresh w drawn).length ≤ drawn.length := fresh_sub.length_le
theorem seal_le {w : Way} {s : StT} {drawn : List Nat} {B : Nat} (h : RowsLe s.rows B) : RowsLe (s.seal w drawn).rows (B + drawn.length * s.rows.length) := by
  have := turns_le2 (w := w) (k := s.known) (cs := s.cells) (fresh := s.fresh w drawn) (orderOf w s.rows.length) (s.rows, tk0) B h
  rw [order_len] at this
  exact RowsLe.mono this (Nat.add_le_add_left (Nat.mul_le_mul fresh_len (Nat.le_refl _)) _)
/-! ### what stays true through a life -/
/-- between two moments of a session with the keys 0 to u; j moments lie behind -/
structure Rn (n pages u j : Nat) (s : StT × HistT) : Prop where
  good : Good pages u s.1
  cells : s.1.cells.length = n
  rows : RowsLe s.1.rows (100 + 100 * j)
  hist : s.2.length = j + 1
/-- between two sessions -/
structure Rs (n pages j : Nat) (s : StT × HistT) : Prop where
  cells : CellsOk pages s.1.cells
  len : s.1.cells.length = n
  hist : s.2.length = j + 1
theorem rs0 (n pages : Nat) : Rs n pages 0 (st0 n, [(List.replicate n none, [])]) := by
  refine ⟨⟨fun h g hh => ?_, fun h hh => ?_, fun h hh => ?_⟩, List.length_replicate, rfl⟩
  all_goals
    have := (List.mem_replicate.mp hh).2
    cases this
theorem rn_begin {n pages copies u j : Nat} {s : StT × HistT} (R : Rs n pages j s) (hp : pages ≤ 6) (hc : copies ≤ 3) : Rn n pages u j (s.1.begin pages copies u, s.2) := by
  refine ⟨begin_good R.cells, R.len, begin_le.mono ?_, R.hist⟩
  have : pages * copies ≤ 6 * 3 := Nat.mul_le_mul hp hc
  omega
theorem Rn.rs {n pages u j : Nat} {s : StT × HistT} (R : Rn n pages u j s) : Rs n pages j s := ⟨R.good.toCellsOk, R.cells, R.hist⟩
theorem rn_mom {n pages copies u j : Nat} {w : Way} {sets : Nat → List Nat} {s : StT × HistT} {m : MomT} (R : Rn n pages u j s) (hu : u < 4) (hn : n ≤ 12) (hc : copies ≤ 3) (h1 : 1 ≤ copies) (hm : m.length ≤ 6) (hx : ∀ x ∈ m, x.1 ≤ u ∧ x.2.1 < pages)
    (hs : (sets j).Nodup ∧ (∀ x ∈ sets j, x < n) ∧ (sets j).length ≤ n) : Rn n pages u (j + 1) (momT w copies sets s m) := by
  have G1 := puts_good h1 m s.1 R.good hx
  have e : s.2.length - 1 = j := by rw [R.hist]; omega
  have hcl : (m.foldl (StT.put copies) s.1).cells.length = n := by rw [puts_cells]; exact R.cells
  unfold momT
  rw [e]
  refine ⟨seal_good G1 hs.1 fun c hc => by rw [hcl]; exact hs.2.1 c hc, ?_, ?_, ?_⟩
  · exact (setAll_len _ _ _).trans hcl
  · refine RowsLe.mono (seal_le (puts_le m s.1 _ R.rows)) ?_
    have h1 : copies * m.length ≤ 3 * 6 := Nat.mul_le_mul hc hm
    have h2 : (sets j).length * (m.foldl (StT.put copies) s.1).rows.length ≤ 12 * 4 := Nat.mul_le_mul (by omega) (by rw [G1.len]; omega)
    omega
  · show (s.2 ++ [_]).length = _
    rw [List.length_append, R.hist]
    rfl
theorem lenT_take (L : LifeT) (i : Nat) : lenT (L.take i) ≤ lenT L := by
  unfold lenT
  conv => rhs; rw [← List.take_append_drop i L]
  rw [List.map_append, List.sum_append]
  exact Nat.le_add_right _ _
def SetsOk (n m : Nat) (sets : Nat → List Nat) : Prop := ∀ j, j < m → (sets j).Nodup ∧ (∀ x ∈ sets j, x < n) ∧ (sets j).length ≤ n
theorem rn_story {n pages copies u m : Nat} {w : Way} {sets : Nat → List Nat} (hu : u < 4) (hn : n ≤ 12) (hc : copies ≤ 3) (h1 : 1 ≤ copies) (so : SetsOk n m sets) : ∀ (t : StoryT) (j : Nat) (s : StT × HistT), Rn n pages u j s → j + t.length ≤ m → (∀ m ∈ t, m.length ≤ 6 ∧ ∀ x ∈ m, x.1 ≤ u ∧ x.2.1 < pages) → Rn n pages u (j + t.length) (t.foldl (momT w copies sets) s)
  | [], j, s, R, _, _ => R
  | y :: t, j, s, R, hl, ht => by
    have R1 := rn_mom (w := w) (sets := sets) (m := y) R hu hn hc h1 (ht y (List.mem_cons_self ..)).1 (ht y (List.mem_cons_self ..)).2 (so j (by rw [List.length_cons] at hl; omega))
    have := rn_story (w := w) hu hn hc h1 so t (j + 1) _ R1 (by rw [List.length_cons] at hl; omega) fun z hz => ht z (List.mem_cons_of_mem _ hz)
    rw [List.length_cons, show j + (t.length + 1) = j + 1 + t.length by omega]
    exact this
theorem rs_life {n d pages copies m : Nat} {w : Way} {sets : Nat → List Nat} (hd : d ≤ 4) (hp : pages ≤ 6) (hn : n ≤ 12) (hc : copies ≤ 3) (h1 : 1 ≤ copies) (so : SetsOk n m sets) : ∀ (L : LifeT) (j : Nat) (s : StT × HistT), Rs n pages j s → j + lenT L ≤ m → (∀ s ∈ L, s.1 < d ∧ ∀ m ∈ s.2, m.length ≤ 6 ∧ ∀ x ∈ m, x.1 ≤ s.1 ∧ x.2.1 < pages) → Rs n pages (j + lenT L) (L.foldl (sessT w pages copies sets) s)
  | [], j, s, R, _, _ => R
  | y :: L, j, s, R, hl, ht => by
    have e : lenT (y :: L) = y.2.length + lenT L := by
      unfold lenT
      rw [List.map_cons, List.sum_cons]
    obtain ⟨a, b⟩ := ht y (List.mem_cons_self ..)
    have R1 := rn_story (w := w) (sets := sets) (m := m) (by omega) hn hc h1 so y.2 j _ (rn_begin (u := y.1) R hp hc) (by omega) b
    have := rs_life (w := w) hd hp hn hc h1 so L (j + y.2.length) (sessT w pages copies sets s y) R1.rs (by omega) fun z hz => ht z (List.mem_cons_of_mem _ hz)
    rw [e, show j + (y.2.length + lenT L) = j + y.2.length + lenT L by omega]
    exact this
/-- the deepest drawer of the last session -/
def lastOf (L : LifeT) : Nat := (L.getLast?.map (·.1)).getD 0
theorem last_at {L : LifeT} (h : L ≠ []) : ∃ s, L[L.length - 1]? = some s ∧ s.1 = lastOf L := by
  have hl : 0 < L.length := List.length_pos_iff.mpr h
  refine ⟨L[L.length - 1], List.getElem?_eq_getElem (by omega), ?_⟩
  unfold lastOf
  rw [List.getLast?_eq_getElem?, List.getElem?_eq_getElem (by omega)]
  rfl
theorem runT_rn {n d p c : Nat} {w : Way} {sets : Nat → List Nat} {L : LifeT} (hd : d ≤ 4) (hp : p ≤ 6) (hn : n ≤ 12) (hc : c ≤ 3) (h1 : 1 ≤ c) (ok : RunL d p L) (ne : L ≠ []) (so : SetsOk n (lenT L) sets) : Rn n p (lastOf L) (lenT L) (runT n w p c sets L) := by
  obtain ⟨s, hs, es⟩ := last_at ne
  have hl : 0 < L.length := List.length_pos_iff.mpr ne
  have e : L = L.take (L.length - 1) ++ [s] := by
    have := takeSnocR hs
    rw [← this, Nat.sub_add_cancel hl, List.take_length]
  have e2 : lenT L = lenT (L.take (L.length - 1)) + s.2.length := by
    unfold lenT
    conv => lhs; rw [e]
    rw [List.map_append, List.sum_append]
    simp
  have hm := List.mem_of_getElem? hs
  obtain ⟨a, b⟩ := ok.sess s hm
  have R1 := rs_life (w := w) (copies := c) (sets := sets) hd hp hn hc h1 so (L.take (L.length - 1)) 0 _ (rs0 n p) (by rw [Nat.zero_add]; exact lenT_take _ _) fun z hz => ok.sess z (List.mem_of_mem_take hz)
  rw [Nat.zero_add] at R1
  have R2 := rn_story (w := w) (sets := sets) (m := lenT L) (by omega) hn hc h1 so s.2 _ _ (rn_begin (u := s.1) R1 hp hc) (by omega) b
  rw [← e2, es] at R2
  unfold runT
  conv => rhs; rw [e]
  rw [List.foldl_append]
  show Rn n p (lastOf L) (lenT L) (sessT w p c sets _ s)
  unfold sessT
  rw [es]
  exact R2
end Hd

set_option maxHeartbeats 4000000
/-! pairs, sorted -/
namespace Hd
open PySem PySem.Spec PyProof.Rows L2 Evl
def ple (a b : Nat × Nat) : Prop := a.1 < b.1 ∨ (a.1 = b.1 ∧ a.2 ≤ b.2)
theorem ple_anti {a b : Nat × Nat} (h : ple a b) (g : ple b a) : a = b := by
  obtain ⟨a1, a2⟩ := a
  obtain ⟨b1, b2⟩ := b
  unfold ple at h g
  simp only at h g
  have e1 : a1 = b1 := by omega
  have e2 : a2 = b2 := by omega
  rw [e1, e2]
theorem sorted_uniq {α : Type} {R : α → α → Prop} (anti : ∀ a b, R a b → R b a → a = b) : ∀ {l m : List α}, l.Perm m → l.Pairwise R → m.Pairwise R → l = m
  | [], m, p, _, _ => (List.Perm.nil_eq p)
  | a :: l, m, p, hl, hm => by
    cases m with
    | nil => exact absurd p.length_eq (by simp)
    | cons b m =>
      obtain ⟨a1, a2⟩ := List.pairwise_cons.mp hl
      obtain ⟨b1, b2⟩ := List.pairwise_cons.mp hm
      have e : a = b := by
        have ha : a ∈ b :: m := p.subset (List.mem_cons_self ..)
        have hb : b ∈ a :: l := p.symm.subset (List.mem_cons_self ..)
        rcases List.mem_cons.mp ha with z | z
        · exact z
        · rcases List.mem_cons.mp hb with y | y
          · exact y.symm
          · exact anti _ _ (a1 _ y) (b1 _ z)
      subst e
      rw [sorted_uniq anti (List.Perm.cons_inv p) a2 b2]
theorem paired_perm {α β : Type} {R : α → β → Prop} {xs ys : List α} (p : ys.Perm xs) : ∀ {l : List β}, Paired R xs l → ∃ l', Paired R ys l' ∧ l'.Perm l := by
  induction p with
  | nil => exact fun {l} h => by cases h; exact ⟨[], .nil, .refl _⟩
  | cons x p ih =>
    intro l h
    cases h with
    | cons r t =>
      obtain ⟨l', a, b⟩ := ih t
      exact ⟨_, .cons r a, b.cons _⟩
  | swap x y l0 =>
    intro l h
    cases h with
    | cons r1 t =>
      cases t with
      | cons r2 t => exact ⟨_, .cons r2 (.cons r1 t), .swap _ _ _⟩
  | trans p1 p2 ih1 ih2 =>
    intro l h
    obtain ⟨l1, a1, b1⟩ := ih2 h
    obtain ⟨l2, a2, b2⟩ := ih1 a1
    exact ⟨l2, a2, b2.trans b1⟩
theorem paired_pw {α β : Type} {R : α → β → Prop} {S : α → α → Prop} {T : β → β → Prop} (h : ∀ a b x y, R a x → R b y → S a b → T x y) : ∀ {xs : List α} {l : List β}, Paired R xs l → xs.Pairwise S → l.Pairwise T
  | _, _, .nil, _ => .nil
  | _, _, .cons r t, p => by
    obtain ⟨p1, p2⟩ := List.pairwise_cons.mp p
    refine List.pairwise_cons.mpr ⟨fun y hy => ?_, paired_pw h t p2⟩
    have : ∀ {xs : List α} {l : List β}, Paired R xs l → ∀ y ∈ l, ∃ b ∈ xs, R b y := fun {xs l} q => by
      induction q with
      | nil => exact fun y hy => by cases hy
      | cons r t ih =>
        intro y hy
        rcases List.mem_cons.mp hy with e | e
        · subst e
          exact ⟨_, List.mem_cons_self .., r⟩
        · obtain ⟨b, hb, hr⟩ := ih y e
          exact ⟨b, List.mem_cons_of_mem _ hb, hr⟩
    obtain ⟨b, hb, hr⟩ := this t y hy
    exact h _ _ _ _ r hr (p1 b hb)
theorem tvPaired {α : Type} {H : Hp} {f : α → PyData} : ∀ {xs : List V} {l : List α}, TvAll H xs (l.map f) → Paired (fun v x => Tv H v (f x)) xs l
  | [], [], _ => .nil
  | _ :: _, _ :: _, .cons h t => .cons h (tvPaired t)
  | [], _ :: _, h => by cases h
  | _ :: _, [], h => by cases h
theorem pairedTv {α : Type} {H : Hp} {f : α → PyData} : ∀ {xs : List V} {l : List α}, Paired (fun v x => Tv H v (f x)) xs l → TvAll H xs (l.map f)
  | _, _, .nil => .nil
  | _, _, .cons h t => .cons h (pairedTv t)
theorem tup_ints {K : PySem.W.Frag} {H : Hp} {t : Addr} {x : Nat × Nat} (h : H t = some (.tup [nV x.1, nV x.2])) : TupI K H (.ref t) [(x.1 : Int), (x.2 : Int)] := ⟨t, rfl, SqT.of h⟩
/-- a list of pairs as sorted takes it -/
theorem sort_in {K : PySem.W.Frag} {H : Hp} {xs : List V} {l : List (Nat × Nat)} (h : TvAll H xs (l.map pairP)) (b : ∀ x ∈ l, x.1 < 64 ∧ x.2 < 64) : ∀ x ∈ xs, ∃ ns, TupI K H x ns ∧ ns.length = 2 ∧ TS.Bd 64 ns := by
  intro x hx
  obtain ⟨i, hi⟩ := List.mem_iff_getElem?.mp hx
  obtain ⟨y, hy, ht⟩ := tvAt h hi
  obtain ⟨t, rfl, g⟩ := tvPair ht
  obtain ⟨b1, b2⟩ := b y (List.mem_of_getElem? hy)
  refine ⟨_, tup_ints g, rfl, fun z hz => ?_⟩
  simp only [List.mem_cons, List.mem_nil_iff, or_false] at hz
  rcases hz with rfl | rfl
  · exact ⟨by omega, by omega⟩
  · exact ⟨by omega, by omega⟩
theorem sort_out {K : PySem.W.Frag} {H : Hp} {xs ys : List V} {l : List (Nat × Nat)} (h : TvAll H xs (l.map pairP)) (b : ∀ x ∈ l, x.1 < 64 ∧ x.2 < 64) (p : ys.Perm xs) (s : ys.Pairwise fun x y => ∀ n m, TupI K H x n → TupI K H y m → TS.code 64 n ≤ TS.code 64 m) :
    ∃ l' : List (Nat × Nat), TvAll H ys (l'.map pairP) ∧ l'.Perm l ∧ l'.Pairwise ple := by
  obtain ⟨l', a, q⟩ := paired_perm p (tvPaired h)
  refine ⟨l', pairedTv a, q, ?_⟩
  have bl : ∀ x ∈ l', x.1 < 64 ∧ x.2 < 64 := fun x hx => b x (q.subset hx)
  have a2 : Paired (fun v x => Tv H v (pairP x) ∧ x.1 < 64 ∧ x.2 < 64) ys l' := by
    clear q s p h
    induction a with
    | nil => exact .nil
    | cons r t ih => exact .cons ⟨r, bl _ (List.mem_cons_self ..)⟩ (ih fun x hx => bl x (List.mem_cons_of_mem _ hx))
  refine paired_pw (fun v u x y h1 h2 c => ?_) a2 s
  obtain ⟨t, rfl, g⟩ := tvPair h1.1
  obtain ⟨t2, rfl, g2⟩ := tvPair h2.1
  have c2 := c _ _ (tup_ints g) (tup_ints g2)
  rw [code_pair, code_pair] at c2
  obtain ⟨_, c3, c4⟩ := h1
  obtain ⟨_, c5, c6⟩ := h2
  unfold ple
  omega
end Hd

set_option maxHeartbeats 4000000
/-! the law's store on the heap -/
namespace Hd
open PySem PySem.Spec PyProof.Rows L2 Evl
theorem nd_put {κ : Type} [DecidableEq κ] {kvs : List (κ × V)} {k : κ} (v : V) (hn : (kvs.map (·.1)).Nodup) : ((putK kvs k v).map (·.1)).Nodup := by
  cases e : valV kvs k with
  | none => exact nd_putK v hn e
  | some x =>
    unfold putK
    rw [if_pos (by rw [valV_any, e] <;> rfl), List.map_map]
    have : kvs.map ((fun kv => kv.1) ∘ fun kv => if kv.1 = k then (kv.1, v) else kv) = kvs.map (·.1) := by
      refine List.map_congr_left fun kv _ => ?_
      show (if kv.1 = k then (kv.1, v) else kv).1 = kv.1
      split <;> rfl
    rw [this]
    exact hn
theorem put_keys {κ : Type} [DecidableEq κ] {kvs : List (κ × V)} {k : κ} {v : V} {x : κ × V} (h : x ∈ putK kvs k v) : x.1 = k ∨ ∃ y ∈ kvs, x.1 = y.1 := by
  unfold putK at h
  split at h
  · obtain ⟨y, hy, e⟩ := List.mem_map.mp h
    refine .inr ⟨y, hy, ?_⟩
    rw [← e]
    split <;> rfl
  · rcases List.mem_append.mp h with z | z
    · exact .inr ⟨x, z, rfl⟩
    · rw [List.mem_singleton.mp z]
      exact .inl rfl
theorem TvAll.rep {H : Hp} {v : V} {d : PyData} (h : Tv H v d) : ∀ n, TvAll H (List.replicate n v) (List.replicate n d)
  | 0 => .nil
  | n + 1 => .cons h (TvAll.rep h n)
/-! ### the newest versions -/
structure NwAt (H : Hp) (k : Addr) (nw : NewT) (n : Nat) : Prop where
  go : ∃ kvs : List (List Key × V), H k = some (.dT kvs) ∧ kvs.length ≤ n ∧ (∀ d p, valV kvs (keyOf d p) = (nw d p).map nV) ∧ (∀ x ∈ kvs, ∃ d p, x.1 = keyOf d p) ∧ (kvs.map (·.1)).Nodup
section
variable {H H1 : Hp} {k b : Addr} {nw : NewT} {n d p : Nat}
theorem NwAt.mv (h : NwAt H k nw n) (e : ∀ o, H k = some o → H1 k = some o) : NwAt H1 k nw n :=
  let ⟨kvs, a, b, c, d, f⟩ := h.go; ⟨kvs, e _ a, b, c, d, f⟩
theorem NwAt.ex (h : NwAt H k nw n) (e : Ex H H1) : NwAt H1 k nw n := h.mv fun o => e k o
theorem NwAt.le {m : Nat} (h : NwAt H k nw n) (l : n ≤ m) : NwAt H k nw m := let ⟨kvs, a, b, c⟩ := h.go; ⟨kvs, a, Nat.le_trans b l, c⟩
theorem NwAt.is (h : NwAt H k nw n) : IsD H k := let ⟨kvs, a, _⟩ := h.go; .inr ⟨kvs, .inl a⟩
theorem NwAt.notup (h : NwAt H k nw n) (xs : List V) : H k ≠ some (.tup xs) := fun e => by
  obtain ⟨kvs, a, _⟩ := h.go
  rw [a] at e
  cases e
theorem NwAt.notlst (h : NwAt H k nw n) (xs : List V) : H k ≠ some (.lst xs) := fun e => by
  obtain ⟨kvs, a, _⟩ := h.go
  rw [a] at e
  cases e
theorem NwAt.get (h : NwAt H k nw n) (hb : H b = some (.tup [nV d, nV p])) : DGet H k (.ref b) ((nw d p).map nV) := by
  obtain ⟨kvs, a, _, c, _⟩ := h.go
  rw [← c d p]
  exact DGet.t (k := keyOf d p) a hb
theorem NwAt.put {v : Nat} (h : NwAt H k nw n) (hb : H b = some (.tup [nV d, nV p])) (hn : n < sizeLine) :
    ∃ H', DPut H k (.ref b) (nV v) H' ∧ NwAt H' k (newSet nw d p v) (n + 1) ∧ Kx (· = k) H H' := by
  obtain ⟨kvs, a, l, c, g, nd⟩ := h.go
  refine ⟨_, DPut.t (k := keyOf d p) a hb (Nat.lt_of_le_of_lt l hn), ⟨putK kvs (keyOf d p) (nV v), upd_same, Nat.le_trans (DSub.putK_len _ _ _) (Nat.succ_le_succ l), fun d' p' => ?_, fun x hx => ?_, nd_put _ nd⟩, Kx.put rfl⟩
  · rw [valV_put]
    unfold newSet
    by_cases e : d' = d ∧ p' = p
    · rw [if_pos e, if_pos (by rw [e.1, e.2])] <;> rfl
    · rw [if_neg e, if_neg (fun z => e (keyOf_inj z))]
      exact c d' p'
  · rcases put_keys hx with z | ⟨y, hy, z⟩
    · exact ⟨d, p, z⟩
    · obtain ⟨d', p', e⟩ := g y hy
      exact ⟨d', p', z.trans e⟩
/-- its keys as a list of pairs -/
theorem NwAt.keys (h : NwAt H k nw n) : ∃ kvs, H k = some (.dT kvs) ∧ ∀ bs G, IsKeys G kvs bs → ∃ L : List (Nat × Nat), TvAll G (bs.map V.ref) (L.map pairP) ∧ L.Nodup ∧ (∀ d p, (d, p) ∈ L ↔ (nw d p).isSome = true) ∧ L.length ≤ n := by
  obtain ⟨kvs, a, l, c, g, nd⟩ := h.go
  refine ⟨kvs, a, fun bs G ik => ?_⟩
  have fst : ∃ L : List (Nat × Nat), kvs.map (·.1) = L.map (fun x => keyOf x.1 x.2) := by
    clear a l c nd ik
    induction kvs with
    | nil => exact ⟨[], rfl⟩
    | cons x r ih =>
      obtain ⟨L, hL⟩ := ih fun y hy => g y (List.mem_cons_of_mem _ hy)
      obtain ⟨d, p, e⟩ := g x (List.mem_cons_self ..)
      exact ⟨(d, p) :: L, by rw [List.map_cons, List.map_cons, hL, e]⟩
  obtain ⟨L, hL⟩ := fst
  refine ⟨L, ?_, ?_, fun d p => ?_, ?_⟩
  · clear a l c nd g
    unfold IsKeys at ik
    induction ik generalizing L with
    | nil =>
      cases L with
      | nil => exact .nil
      | cons y z => simp at hL
    | @cons x b xs bs r t ih =>
      cases L with
      | nil => simp at hL
      | cons y z =>
        rw [List.map_cons, List.map_cons] at hL
        injection hL with e1 e2
        rw [e1] at r
        exact .cons (ofPair (a := y.1) (b := y.2) r) (ih z e2)
  · rw [hL] at nd
    exact List.Pairwise.of_map (fun x : Nat × Nat => keyOf x.1 x.2) (fun _ _ hne e => hne (by rw [e])) nd
  · rw [show (nw d p).isSome = (valV kvs (keyOf d p)).isSome by rw [c d p] <;> cases nw d p <;> rfl, ← valV_any, List.any_eq_true]
    constructor
    · intro hm
      have : keyOf d p ∈ kvs.map (·.1) := hL ▸ List.mem_map.mpr ⟨(d, p), hm, rfl⟩
      obtain ⟨x, hx, e⟩ := List.mem_map.mp this
      exact ⟨x, hx, decide_eq_true e⟩
    · rintro ⟨x, hx, e⟩
      have : keyOf d p ∈ L.map (fun x => keyOf x.1 x.2) := hL ▸ List.mem_map.mpr ⟨x, hx, of_decide_eq_true e⟩
      obtain ⟨y, hy, e2⟩ := List.mem_map.mp this
      obtain ⟨e3, e4⟩ := keyOf_inj e2
      obtain ⟨y1, y2⟩ := y
      simp only at e3 e4
      subst e3 e4
      exact hy
  · have := congrArg List.length hL
    rw [List.length_map, List.length_map] at this
    omega
end
theorem ple_strict {l : List (Nat × Nat)} (h : l.Pairwise ple) (n : l.Nodup) : l.Pairwise fun a b => a.1 < b.1 ∨ (a.1 = b.1 ∧ a.2 < b.2) := by
  refine List.Pairwise.imp (fun {a b} (z : ple a b ∧ a ≠ b) => ?_) (List.pairwise_and_iff.mpr ⟨h, n⟩)
  obtain ⟨z1, z2⟩ := z
  obtain ⟨a1, a2⟩ := a
  obtain ⟨b1, b2⟩ := b
  unfold ple at z1
  simp only at z1 ⊢
  rcases z1 with y | ⟨y1, y2⟩
  · exact .inl y
  · refine .inr ⟨y1, Nat.lt_of_le_of_ne y2 fun e => z2 ?_⟩
    rw [y1, e]
/-! ### rows of what waits -/
structure LrAt (H : Hp) (r : Addr) (rs : List Addr) (rows : List (List Held)) : Prop where
  rw : H r = some (.lst (rs.map V.ref))
  ro : Paired (fun b row => ∃ ws, H b = some (.lst ws) ∧ TvAll H ws (row.map heldP)) rs rows
  nd : (r :: rs).Nodup
section
variable {H H1 : Hp} {r : Addr} {rs : List Addr} {rows : List (List Held)}
theorem pairedMem {α β : Type} {R : α → β → Prop} : ∀ {xs : List α} {ys : List β} {x : α}, Paired R xs ys → x ∈ xs → ∃ y ∈ ys, R x y
  | _, _, _, .nil, h => by cases h
  | _, _, x, .cons r t, h => by
    rcases List.mem_cons.mp h with e | e
    · subst e
      exact ⟨_, List.mem_cons_self .., r⟩
    · obtain ⟨y, hy, hr⟩ := pairedMem t e
      exact ⟨y, List.mem_cons_of_mem _ hy, hr⟩
theorem pairedIm {α β : Type} {R S : α → β → Prop} : ∀ {xs : List α} {ys : List β}, Paired R xs ys → (∀ x ∈ xs, ∀ y, R x y → S x y) → Paired S xs ys
  | _, _, .nil, _ => .nil
  | _, _, .cons r t, h => .cons (h _ (List.mem_cons_self ..) _ r) (pairedIm t fun x hx => h x (List.mem_cons_of_mem _ hx))
theorem pairedGet {α β : Type} {R : α → β → Prop} : ∀ {xs : List α} {ys : List β} {i : Nat} {y : β}, Paired R xs ys → ys[i]? = some y → ∃ x, xs[i]? = some x ∧ R x y
  | _, _, _, _, .nil, e => by simp at e
  | _, _, 0, _, .cons r t, e => by
    obtain rfl := Option.some.inj (by simpa using e)
    exact ⟨_, rfl, r⟩
  | _, _, i + 1, _, .cons r t, e => by
    obtain ⟨x, a, b⟩ := pairedGet (i := i) t (by simpa using e)
    exact ⟨x, by simpa using a, b⟩
theorem pairedSet {α β : Type} {R S : α → β → Prop} : ∀ {xs : List α} {ys : List β} {i : Nat} {x : α} {y : β}, Paired R xs ys → (∀ a ∈ xs, ∀ b, R a b → S a b) → S x y → Paired S (xs.set i x) (ys.set i y)
  | _, _, _, _, _, .nil, _, _ => .nil
  | _, _, 0, _, _, .cons r t, h, g => .cons g (pairedIm t fun a ha => h a (List.mem_cons_of_mem _ ha))
  | _, _, i + 1, _, _, .cons r t, h, g => .cons (h _ (List.mem_cons_self ..) _ r) (pairedSet t (fun a ha => h a (List.mem_cons_of_mem _ ha)) g)
theorem nodup_set {α : Type} : ∀ {l : List α} {i : Nat} {x : α}, l.Nodup → ¬ x ∈ l → (l.set i x).Nodup
  | [], _, _, h, _ => h
  | a :: l, 0, x, h, n => List.nodup_cons.mpr ⟨fun z => n (List.mem_cons_of_mem _ z), (List.nodup_cons.mp h).2⟩
  | a :: l, i + 1, x, h, n => by
    obtain ⟨h1, h2⟩ := List.nodup_cons.mp h
    refine List.nodup_cons.mpr ⟨fun z => ?_, nodup_set h2 fun z => n (List.mem_cons_of_mem _ z)⟩
    rcases List.mem_or_eq_of_mem_set z with y | y
    · exact h1 y
    · exact n (y ▸ List.mem_cons_self ..)
theorem LrAt.len (R : LrAt H r rs rows) : rs.length = rows.length := R.ro.length
theorem LrAt.isl (R : LrAt H r rs rows) {b : Addr} (h : b = r ∨ b ∈ rs) : ∃ xs, H b = some (.lst xs) := by
  rcases h with e | e
  · exact ⟨_, e ▸ R.rw⟩
  · obtain ⟨_, _, ws, a, _⟩ := pairedMem R.ro e
    exact ⟨ws, a⟩
theorem LrAt.mv (R : LrAt H r rs rows) (kt : Kt H H1) (e : ∀ b, (b = r ∨ b ∈ rs) → ∀ o, H b = some o → H1 b = some o) : LrAt H1 r rs rows :=
  ⟨e _ (.inl rfl) _ R.rw, pairedIm R.ro fun b hb row ⟨ws, h, t⟩ => ⟨ws, e b (.inr hb) _ h, t.mv kt⟩, R.nd⟩
theorem LrAt.ex (R : LrAt H r rs rows) (e : Ex H H1) : LrAt H1 r rs rows := R.mv (Kt.ex e) fun b _ o h => e b o h
theorem LrAt.row (R : LrAt H r rs rows) {d : Nat} (hd : d < rows.length) : ∃ b ws, rs[d]? = some b ∧ H b = some (.lst ws) ∧ TvAll H ws ((rows.getD d []).map heldP) ∧ r ≠ b := by
  obtain ⟨b, h1, ws, h2, h3⟩ := pairedGet R.ro (List.getElem?_eq_getElem hd)
  refine ⟨b, ws, h1, h2, ?_, fun e => (List.nodup_cons.mp R.nd).1 (by rw [e]; exact List.mem_of_getElem? h1)⟩
  rw [List.getD_eq_getElem?_getD, List.getElem?_eq_getElem hd]
  exact h3
theorem LrAt.new (R : LrAt H r rs rows) {b D : Addr} (h : b = r ∨ b ∈ rs) (n : H D = none) : b ≠ D := fun e => by
  obtain ⟨xs, a⟩ := R.isl h
  rw [e, n] at a
  cases a
/-- a row is another list from now on -/
theorem LrAt.set (R : LrAt H r rs rows) {d : Nat} {p : Addr} {ws : List V} {row : List Held} (hp : H p = some (.lst ws)) (hn : ¬ p ∈ r :: rs) (tv : TvAll H ws (row.map heldP)) :
    LrAt (upd H r (.lst ((rs.set d p).map V.ref))) r (rs.set d p) (rows.set d row) := by
  have np : p ≠ r := fun e => hn (e ▸ List.mem_cons_self ..)
  have kt : Kt H (upd H r (.lst ((rs.set d p).map V.ref))) := Kt.put R.rw
  obtain ⟨n1, n2⟩ := List.nodup_cons.mp R.nd
  refine ⟨upd_same, pairedSet R.ro (fun b hb row ⟨ws, h, t⟩ => ⟨ws, ?_, t.mv kt⟩) ⟨ws, by rw [upd_ne np]; exact hp, tv.mv kt⟩, List.nodup_cons.mpr ⟨fun z => ?_, nodup_set n2 fun z => hn (List.mem_cons_of_mem _ z)⟩⟩
  · rw [upd_ne (fun e => n1 (by rw [← e]; exact hb))]
    exact h
  · rcases List.mem_or_eq_of_mem_set z with y | y
    · exact n1 y
    · exact np y.symm
theorem refs_set (rs : List Addr) (d : Nat) (p : Addr) : (rs.map V.ref).set d (.ref p) = (rs.set d p).map V.ref := by rw [List.map_set]
end
theorem pairedAt {α β : Type} {R S : α → β → Prop} : ∀ {xs : List α} {ys : List β} {i : Nat} {x : α} {y : β}, Paired R xs ys → xs.Nodup → xs[i]? = some x → (∀ a ∈ xs, a ≠ x → ∀ b, R a b → S a b) → S x y → Paired S xs (ys.set i y)
  | _, _, _, _, _, .nil, _, _, _, _ => .nil
  | _, _, 0, _, _, .cons r t, n, e, h, g => by
    obtain rfl := Option.some.inj (by simpa using e)
    exact .cons g (pairedIm t fun a ha => h a (List.mem_cons_of_mem _ ha) fun z => (List.nodup_cons.mp n).1 (z ▸ ha))
  | _, _, i + 1, x, _, .cons r t, n, e, h, g => by
    have e' := (by simpa using e)
    have hm := List.mem_of_getElem? e'
    exact .cons (h _ (List.mem_cons_self ..) (fun z => (List.nodup_cons.mp n).1 (z ▸ hm)) _ r) (pairedAt t (List.nodup_cons.mp n).2 e' (fun a ha => h a (List.mem_cons_of_mem _ ha)) g)
/-- a row's list has changed -/
theorem LrAt.chg {H H1 : Hp} {r : Addr} {rs : List Addr} {rows : List (List Held)} (R : LrAt H r rs rows) {d : Nat} {b : Addr} {ws : List V} {row : List Held} (hb : rs[d]? = some b) (k : Kx (· = b) H H1) (kt : Kt H H1) (h : H1 b = some (.lst ws)) (tv : TvAll H1 ws (row.map heldP)) : LrAt H1 r rs (rows.set d row) := by
  obtain ⟨n1, n2⟩ := List.nodup_cons.mp R.nd
  have hm := List.mem_of_getElem? hb
  exact ⟨k _ _ (fun e => n1 (e ▸ hm)) R.rw, pairedAt R.ro n2 hb (fun a ha ne row ⟨ws, h, t⟩ => ⟨ws, k _ _ ne h, t.mv kt⟩) ⟨ws, h, tv⟩, R.nd⟩
/-! ### a list or a tuple -/
def seqO (b : Bool) (xs : List V) : HO := cond b (.lst xs) (.tup xs)
def SqB (b : Bool) (K : PySem.W.Frag) (H : Hp) (a : Addr) (xs : List V) : Prop := if b = true then SqL K H a xs else SqT K H a xs
theorem SqB.of {b : Bool} {K : PySem.W.Frag} {H : Hp} {a : Addr} {xs : List V} (h : H a = some (seqO b xs)) : SqB b K H a xs := by
  cases b
  · exact SqT.of h
  · exact SqL.of h
def Itb (b : Bool) (K : PySem.W.Frag) (a : Addr) : It := cond b (Itl K a) (Itt K a)
def iSeq (b : Bool) (K : PySem.W.Frag) (tl : TE) : TI := fun σ H R => tl σ H fun x H1 => ∃ a, x = .ref a ∧ (∃ xs, SqB b K H1 a xs) ∧ R (Itb b K a) H1
theorem pi_seq (b : Bool) {X : Cx} {tg l : Expr} {tl : TE} (h : PE X l tl) : PI X tg l (iSeq b X.K tl) := by
  cases b
  · exact pi_tup h
  · exact pi_list h
theorem walk_seq (b : Bool) {K : PySem.W.Frag} {a : Addr} {xs : List V} : Walk (Itb b K a) xs.length (fun H => SqB b K H a xs) (YAt xs) := by
  cases b
  · exact walk_tup
  · exact walk_list
end Hd

set_option maxHeartbeats 3200000
namespace Hd
open PySem PySem.Spec PyProof.Rows L2
/-! ### set(xs) of a list of ints, as a set that sorted takes -/
/-- a set that holds nothing yet -/
abbrev freshSet (w : World) : Obj := { cls := .type "set", dict := none, data := .set #[] 0 (.fresh 0 0 (!w.params.followText "set-order")) }
section
variable {P : Program} {w : World} {A : Around} {E : Value → Shared → Prop} {s : Shared}
/-- what set(xs) leaves behind at a -/
def SetLeft (w : World) (s : Shared) (ns : List Int) (s' : Shared) : Prop := ∃ (h' : Heap) (tk c : Nat), s' = { s with heap := h', toks := tk } ∧ SetR w h' s.heap.objs.size (fun j => decide (j ∈ ns)) c ∧ c ≤ ns.length ∧ ∀ b o, s.heap.get? b = some o → h'.get? b = some o
theorem list_fill {l : Addr} {items : Array Value} {ns : List Int} (hh : A.handled = none) (hl : s.heap.IsList l items) (hit : IntsAre items.toList ns) (hb : ns.length + 1 < scanBound) {R : Result → Shared → Prop}
    (hR : ∀ s', SetLeft w s ns s' → R (.ok (.ret .none)) s') :
    codeAny (model P w) A (.builtin "set.update.loop" ⟨[.ref s.heap.objs.size, .ref (s.heap.objs.size + 1)], []⟩) R
      { s with heap := (s.heap.push (freshSet w)).push { cls := .type "list_iterator", data := .fields #[.ref l, .int 0 0] } } := by
  have len : items.size = ns.length := by
    have := IntsAre.length hit
    rwa [Array.length_toList] at this
  have ls : l < s.heap.objs.size := by
    obtain ⟨o, ho, _⟩ := hl
    exact Heap.lt_size ho
  have h1 : (s.heap.push (freshSet w)).objs.size = s.heap.objs.size + 1 := Heap.size_push ..
  have at0 : ((s.heap.push (freshSet w)).push { cls := .type "list_iterator", data := .fields #[.ref l, .int 0 0] }).get? s.heap.objs.size = some (freshSet w) := Heap.get?_push_of_some _ (Heap.get?_push_size _ rfl)
  have at1 : ((s.heap.push (freshSet w)).push { cls := .type "list_iterator", data := .fields #[.ref l, .int 0 0] }).get? (s.heap.objs.size + 1) = some { cls := .type "list_iterator", data := .fields #[.ref l, .int 0 0] } := by
    rw [← h1]
    exact Heap.get?_push_size _ rfl
  refine set_update_ints ((Walks.list (by simpa using hh) (s.heap.objs.size + 1) l (Nat.ne_of_lt (Nat.lt_succ_of_lt ls)) items).toS) s.heap.objs.size ?_ ns len hb (fun i v hv => ?_) _ 0 _ rfl (Nat.zero_le _) ⟨⟨_, at1, rfl, rfl⟩, (hl.push _).push _⟩ ⟨0, Nat.le_refl 0, setR_new_at at0⟩ fun s' c hm hc hS => ?_
  · simp only [List.mem_cons, List.mem_singleton, List.not_mem_nil, or_false, not_or]
    exact ⟨Nat.ne_of_lt (Nat.lt_succ_self _), Nat.ne_of_gt ls⟩
  · have hi : i < ns.length := len ▸ (Array.getElem?_eq_some_iff.mp hv).1
    obtain ⟨t, e⟩ := IntsAre.int_at hit i v (by rw [Array.getElem?_toList]; exact hv)
    exact ⟨ns[i], t, List.getElem?_eq_getElem hi, by rw [e, List.getD_eq_getElem?_getD, List.getElem?_eq_getElem hi] <;> rfl⟩
  · obtain ⟨h', g', d', tk', os'⟩ := s'
    obtain rfl : g' = s.gens := hm.gens
    obtain rfl : d' = s.drawn := hm.drawn
    obtain rfl : os' = s.os := hm.os
    refine hR _ ⟨h', tk', c, rfl, hS, len ▸ hc, fun b o e => ?_⟩
    have hb0 := Heap.lt_size e
    refine hm.heap b o ?_ (Heap.get?_push_of_some _ (Heap.get?_push_of_some _ e))
    simp only [List.mem_cons, List.mem_singleton, List.not_mem_nil, or_false, not_or]
    exact ⟨Nat.ne_of_lt hb0, Nat.ne_of_lt (Nat.lt_succ_of_lt hb0)⟩
theorem list_init {l : Addr} {items : Array Value} {ns : List Int} (hh : A.handled = none) (hl : s.heap.IsList l items) (hit : IntsAre items.toList ns) (hb : ns.length + 1 < scanBound) :
    codeAny (model P w) A (.call (.builtin "set.__init__") ⟨[.ref s.heap.objs.size, .ref l], []⟩) (wants (fun r s' => r = .none ∧ SetLeft w s ns s') E) { s with heap := s.heap.push (freshSet w) } := by
  have me : Shared.TypeIs { s with heap := s.heap.push (freshSet w) } (.ref s.heap.objs.size) "set" := ⟨_, Heap.get?_push_size _ rfl, rfl⟩
  refine codeAny_call_builtin F.called_set.init.plain F.entry_set_init (check_set_init_1 me ?_)
  have src : (s.heap.push (freshSet w)).IsList l items := hl.push _
  obtain ⟨o, ho, hc, n, hd⟩ := id src
  obtain ⟨oc, od, dt, sl⟩ := o
  simp only at hc hd
  subst hc hd
  have n1 := F.sub_list_set
  have n2 := F.sub_list_frozenset
  have n3 : (Value.type "list" == Value.type "dict") = false := by decide
  unfold Builtin.«set.__init__» noKeywords Builtin.Frozenset.updateFrom
  generalize hg : pyIter = it
  wp_walk
  subst hg
  refine wpAny_pyIter_list src (wpAny_bind (wpAny_runValue ?_))
  rw [Heap.size_push]
  refine list_fill (by simpa using hh) hl hit hb fun s' q => ?_
  exact wpAny_pure (wpAny_pure ⟨rfl, q⟩)
theorem set_of_list {l : Addr} {items : Array Value} {ns : List Int} {Q : Value → Shared → Prop} (hh : A.handled = none) (hl : s.heap.IsList l items) (hit : IntsAre items.toList ns) (hb : ns.length + 1 < scanBound)
    (h : ∀ s', SetLeft w s ns s' → Q (.ref s.heap.objs.size) s') : wpAny (model P w) A (call (.type "set") [.ref l]) Q E s := by
  have t := F.called_set
  obtain ⟨c, tl, mro⟩ := t.mro
  have q1 := t.made
  have q2 := t.sub
  have q3 := t.notType
  have q4 := t.canCreate
  have q5 := F.typeCall_set_1 (.ref l)
  refine wpAny_call (codeAny_of_tree (wpAny_pure ⟨Code.quiet_builtin _ (by decide +kernel), codeAny_builtin F.entry_type_call ?_⟩))
  rw [Around.under_plain (weight_type_call_type "set" [.ref l] []) rfl]
  repeat (any_goals (first | assumption | wp_step))
  refine codeAny_mono (code_set_led1 (.ref l) (E := E) (Q₁ := fun x s1 => x = .ref s.heap.objs.size ∧ s1 = { s with heap := s.heap.push (freshSet w) }) ⟨rfl, rfl⟩) fun r s1 e => ?_
  cases r with
  | error x => exact e
  | ok fl =>
    cases fl with
    | ret x =>
      obtain ⟨rfl, rfl⟩ := e
      have me : Shared.TypeIs { s with heap := s.heap.push (freshSet w) } (.ref s.heap.objs.size) "set" := ⟨_, Heap.get?_push_size _ rfl, rfl⟩
      have q6 := t.init.lookup
      have q7 := t.init.bind (.ref s.heap.objs.size)
      repeat (any_goals (first | assumption | wp_step))
      refine codeAny_mono (list_init (E := E) (by simpa using hh) hl hit hb) fun r2 s2 e2 => ?_
      cases r2 with
      | error x => exact e2
      | ok fl2 =>
        cases fl2 with
        | ret y =>
          obtain ⟨rfl, left⟩ := e2
          repeat (any_goals (first | assumption | wp_step))
          exact h _ left
        | _ => exact e2.elim
    | _ => exact e.elim
end
theorem nodup_bound : ∀ {n : Nat} {l : List Nat}, l.Nodup → (∀ x ∈ l, x < n) → l.length ≤ n
  | 0, [], _, _ => Nat.le_refl 0
  | 0, x :: l, _, h => absurd (h x List.mem_cons_self) (Nat.not_lt_zero _)
  | n + 1, l, nd, h => by
    have h1 := nodup_bound (n := n) (l := l.erase n) (nd.erase n) fun x hx => by
      obtain ⟨a, b⟩ := (List.Nodup.mem_erase_iff nd).mp hx
      have := h x b
      omega
    rw [List.length_erase] at h1
    split at h1 <;> omega
theorem setR_bound {w : World} {h : Heap} {a : Addr} {ns : List Int} {c B : Nat} (R : SetR w h a (fun j => decide (j ∈ ns)) c) (hb : ∀ x ∈ ns, 0 ≤ x ∧ x < (B : Int)) : c ≤ B := by
  obtain ⟨o, es, ep, t, _, _, _, _, nd, mem, _, _, hn, _⟩ := R
  have inB : ∀ x ∈ es.toList.map L2.keyOf, 0 ≤ x ∧ x < (B : Int) := fun x hx => hb x (of_decide_eq_true ((mem x).mpr hx))
  have := nodup_bound (n := B) (l := (es.toList.map L2.keyOf).map Int.toNat) (by
    unfold List.Nodup at nd ⊢
    refine List.pairwise_map.mpr (nd.imp_of_mem fun {x y} hx hy ne e => ne ?_)
    have := (inB x hx).1
    have := (inB y hy).1
    omega) fun x hx => by
    obtain ⟨y, hy, rfl⟩ := List.mem_map.mp hx
    have := inB y hy
    omega
  rw [List.length_map, List.length_map, Array.length_toList] at this
  omega
section
variable {X : Cx}
/-- set(xs), xs a list of ints -/
def rSetLs (K : PySem.W.Frag) (w : World) : List V → Hp → VK → Prop := fun xs H Q => ∃ (l : Addr) (ns : List Int), xs = [V.ref l] ∧ SqL K H l (ns.map V.int) ∧ ns.length ≤ 1000 ∧
  ∀ (a : Addr) (c : Nat), (∀ B : Nat, (∀ x ∈ ns, 0 ≤ x ∧ x < (B : Int)) → c ≤ B) → H a = none → Q (.ref a) (upd H a (SetO w a (fun j => decide (j ∈ ns)) c))
theorem cr_setLs (hc : X.calm = true) : CallR X (.type "set") (rSetLs X.K X.w) := by
  intro pins s σ H xs us Q I r h
  obtain ⟨l, ns, rfl, hl, hb, q⟩ := h
  rw [Vals.ref1 r]
  obtain ⟨its, rv, pl, hz⟩ := I.list hl
  refine set_of_list (ns := ns) (I.ok.hd hc) pl.isList rv.ints (by unfold scanBound; omega) fun s' left => ?_
  obtain ⟨h', tk, c, rfl, R, cl, k⟩ := left
  exact ⟨.ref s.heap.objs.size, upd H s.heap.objs.size (SetO X.w s.heap.objs.size (fun j => decide (j ∈ ns)) c), I.laid (t' := tk) k (Nat.le_refl _) (setO_new R), rfl, q _ c (fun B hb => setR_bound R hb) (I.hok.fresh (Nat.le_refl _))⟩
end
end Hd

set_option maxHeartbeats 4000000
/-! what is seen with some keys at some times -/
namespace Hd
open PySem PySem.Spec PyProof.Rows L2 Evl
/-! ### the model -/
def openC (u : Nat) (cs : CellsT) : CellsT := cs.map fun o => o.filter fun h => decide (h.1 ≤ u)
/-- the cells sealed anew behind the moment a, up to the moment b -/
def sinceT (hist : HistT) (a b : Nat) : List Nat := ((hist.take (b + 1)).drop (a + 1)).flatMap (·.2)
/-- the members below n, in their order -/
def srtT (n : Nat) (s : List Nat) : List Nat := (List.range n).filter fun x => decide (x ∈ s)
def timeT (ts : List Nat) (i : Nat) : Nat := ts.getD i 0
def lookT (n u : Nat) (hist : HistT) (ts : List Nat) (i : Nat) : CellsT × List Nat := (openC u (hist.getD (timeT ts i) ([], [])).1, srtT n (sinceT hist (timeT ts (i - 1)) (timeT ts i)))
def viewT (n u : Nat) (hist : HistT) (ts : List Nat) : HistT := (List.range ts.length).map (lookT n u hist ts)
theorem strict_eq : ∀ {a b : List Nat}, a.Pairwise (· < ·) → b.Pairwise (· < ·) → (∀ x, x ∈ a ↔ x ∈ b) → a = b
  | [], [], _, _, _ => rfl
  | [], y :: b, _, _, h => by have := (h y).mpr List.mem_cons_self; cases this
  | x :: a, [], _, _, h => by have := (h x).mp List.mem_cons_self; cases this
  | x :: a, y :: b, ha, hb, h => by
    obtain ⟨a1, a2⟩ := List.pairwise_cons.mp ha
    obtain ⟨b1, b2⟩ := List.pairwise_cons.mp hb
    have e : x = y := by
      rcases List.mem_cons.mp ((h x).mp List.mem_cons_self) with e | m
      · exact e
      · rcases List.mem_cons.mp ((h y).mpr List.mem_cons_self) with e | m2
        · exact e.symm
        · have := b1 x m
          have := a1 y m2
          omega
    subst e
    refine congrArg (x :: ·) (strict_eq a2 b2 fun z => ⟨fun m => ?_, fun m => ?_⟩)
    · rcases List.mem_cons.mp ((h z).mp (List.mem_cons_of_mem _ m)) with e | m2
      · have := a1 z m
        omega
      · exact m2
    · rcases List.mem_cons.mp ((h z).mpr (List.mem_cons_of_mem _ m)) with e | m2
      · have := b1 z m
        omega
      · exact m2
theorem srt_strict (n : Nat) (s : List Nat) : (srtT n s).Pairwise (· < ·) := List.Pairwise.filter _ List.pairwise_lt_range
theorem srt_mem {n : Nat} {s : List Nat} (h : ∀ x ∈ s, x < n) (x : Nat) : x ∈ srtT n s ↔ x ∈ s := by
  unfold srtT
  rw [List.mem_filter, List.mem_range, decide_eq_true_eq]
  exact ⟨fun z => z.2, fun z => ⟨h x z, z⟩⟩
/-- a sorted list of ints with the same members -/
theorem srt_ints {n : Nat} {s : List Nat} {is : List Int} (h : ∀ x ∈ s, x < n) (hp : is.Pairwise (· < ·)) (hm : ∀ k : Int, k ∈ is ↔ ∃ x ∈ s, k = (x : Int)) : is = (srtT n s).map fun (x : Nat) => (x : Int) := by
  have e : is = (is.map Int.toNat).map fun (x : Nat) => (x : Int) := by
    rw [List.map_map]
    refine (List.map_id is).symm.trans (List.map_congr_left fun k hk => ?_)
    obtain ⟨x, _, rfl⟩ := (hm k).mp hk
    rfl
  rw [e]
  refine congrArg _ (strict_eq ?_ (srt_strict n s) fun x => ?_)
  · refine List.pairwise_map.mpr (hp.imp_of_mem fun {a b} ha hb l => ?_)
    obtain ⟨x, _, rfl⟩ := (hm a).mp ha
    obtain ⟨y, _, rfl⟩ := (hm b).mp hb
    simpa using l
  · rw [srt_mem h, List.mem_map]
    constructor
    · rintro ⟨k, hk, rfl⟩
      obtain ⟨y, hy, rfl⟩ := (hm k).mp hk
      exact hy
    · exact fun hx => ⟨(x : Int), (hm _).mpr ⟨x, hx, rfl⟩, rfl⟩
/-! ### histories -/
/-- what each picture of a history tells: cells below n, each but once; as many cells -/
def HistOk (n : Nat) (hist : HistT) : Prop := ∀ x ∈ hist, x.1.length = n ∧ x.2.Nodup ∧ ∀ y ∈ x.2, y < n
theorem HistOk.since {n : Nat} {hist : HistT} (h : HistOk n hist) (a b : Nat) : ∀ x ∈ sinceT hist a b, x < n := fun x hx => by
  obtain ⟨e, he, hx⟩ := List.mem_flatMap.mp hx
  exact (h e (List.mem_of_mem_take (List.mem_of_mem_drop he))).2.2 x hx
theorem srt_len {n : Nat} (s : List Nat) : (srtT n s).length ≤ n := by
  unfold srtT
  refine Nat.le_trans (List.length_filter_le _ _) ?_
  rw [List.length_range]
  exact Nat.le_refl n
theorem flat_len {n m : Nat} : ∀ {l : HistT}, (∀ x ∈ l, x.2.length ≤ n) → (l.flatMap (·.2)).length ≤ l.length * n
  | [], _ => Nat.zero_le _
  | x :: l, h => by
    have a := h x List.mem_cons_self
    have b := flat_len (l := l) (m := m) fun y hy => h y (List.mem_cons_of_mem _ hy)
    rw [List.flatMap_cons, List.length_append, List.length_cons, Nat.succ_mul]
    omega
theorem HistOk.since_len {n : Nat} {hist : HistT} (h : HistOk n hist) (a b : Nat) : (sinceT hist a b).length ≤ hist.length * n := by
  refine Nat.le_trans (flat_len (n := n) (m := 0) fun x hx => ?_) (Nat.mul_le_mul_right n ?_)
  · obtain ⟨_, nd, lt⟩ := h x (List.mem_of_mem_take (List.mem_of_mem_drop hx))
    exact nodup_bound nd lt
  · rw [List.length_drop, List.length_take]
    omega
theorem since_self (hist : HistT) (a : Nat) : sinceT hist a a = [] := by
  unfold sinceT
  rw [List.drop_of_length_le (by rw [List.length_take]; omega)] <;> rfl
/-! #### a life's run tells a good history -/
def SetsAll (n : Nat) (sets : Nat → List Nat) : Prop := ∀ j, (sets j).Nodup ∧ ∀ x ∈ sets j, x < n
theorem histOk_mom {n copies : Nat} {w : Way} {sets : Nat → List Nat} {s : StT × HistT} (hs : SetsAll n sets) (m : MomT) (h : HistOk n s.2 ∧ s.1.cells.length = n) : HistOk n (momT w copies sets s m).2 ∧ (momT w copies sets s m).1.cells.length = n := by
  have hcl : (m.foldl (StT.put copies) s.1).cells.length = n := by rw [puts_cells]; exact h.2
  have hc2 : ((m.foldl (StT.put copies) s.1).seal w (sets (s.2.length - 1))).cells.length = n := (setAll_len _ _ _).trans hcl
  obtain ⟨nd, lt⟩ := hs (s.2.length - 1)
  refine ⟨fun x hx => ?_, hc2⟩
  rcases List.mem_append.mp (show x ∈ s.2 ++ [_] from hx) with z | z
  · exact h.1 x z
  · obtain rfl := List.mem_singleton.mp z
    exact ⟨hc2, nd.sublist fresh_sub, fun y hy => lt y (fresh_sub.subset hy)⟩
theorem histOk_story {n copies : Nat} {w : Way} {sets : Nat → List Nat} (hs : SetsAll n sets) : ∀ (t : StoryT) {s : StT × HistT}, HistOk n s.2 ∧ s.1.cells.length = n → HistOk n (t.foldl (momT w copies sets) s).2 ∧ (t.foldl (momT w copies sets) s).1.cells.length = n
  | [], _, h => h
  | m :: t, _, h => histOk_story hs t (histOk_mom hs m h)
theorem histOk_life {n pages copies : Nat} {w : Way} {sets : Nat → List Nat} (hs : SetsAll n sets) : ∀ (L : LifeT) {s : StT × HistT}, HistOk n s.2 ∧ s.1.cells.length = n → HistOk n (L.foldl (sessT w pages copies sets) s).2 ∧ (L.foldl (sessT w pages copies sets) s).1.cells.length = n
  | [], _, h => h
  | x :: L, s, h => histOk_life hs L (histOk_story (s := (s.1.begin pages copies x.1, s.2)) hs x.2 h)
theorem histOk_run {n pages copies : Nat} {w : Way} {sets : Nat → List Nat} (hs : SetsAll n sets) (L : LifeT) : HistOk n (runT n w pages copies sets L).2 := (histOk_life hs L (s := (st0 n, [(List.replicate n none, [])])) ⟨fun x hx => by
  obtain rfl := List.mem_singleton.mp hx
  exact ⟨List.length_replicate, List.nodup_nil, fun y hy => by cases hy⟩, List.length_replicate⟩).1
theorem setsAll {n k : Nat} {cs : List Nat} (h0 : 0 < nck n k) (h : ∀ x ∈ cs, x < nck n k) : SetsAll n (setOf n k cs) := fun j => by
  have hx : cs.getD j 0 < nck n k := by
    rw [List.getD_eq_getElem?_getD]
    cases e : cs[j]? with
    | none => exact h0
    | some x => exact h x (List.mem_of_getElem? e)
  obtain ⟨a, b, _⟩ := draw_ok hx
  exact ⟨a, b⟩
end Hd

set_option maxHeartbeats 4000000
/-! what lies beneath is not seen: two stores that are alike above stay alike (the way true) -/
namespace Hd
open PySem PySem.Spec PyProof.Rows L2 Evl
/-- what a holder of the keys 0 to u sees of a cell -/
def lowO (u : Nat) (o : Option Held) : Option Held := o.filter fun h => decide (h.1 ≤ u)
theorem lowO_some {u : Nat} {h : Held} (l : h.1 ≤ u) : lowO u (some h) = some h := by
  unfold lowO
  rw [Option.filter_some, if_pos (by simpa using l)]
theorem lowO_deep {u : Nat} {h : Held} (l : ¬ h.1 ≤ u) : lowO u (some h) = none := by
  unfold lowO
  rw [Option.filter_some, if_neg (by simpa using l)]
theorem low_same {u : Nat} {o o' : Option Held} {h : Held} (e : lowO u o = lowO u o') (ho : o = some h) (l : h.1 ≤ u) : o' = some h := by
  subst ho
  rw [lowO_some l] at e
  cases o' with
  | none => cases e
  | some g =>
    by_cases c : g.1 ≤ u
    · rw [lowO_some c] at e
      exact e.symm
    · rw [lowO_deep c] at e
      cases e
/-- two stores alike above u -/
structure Sim (u : Nat) (s s' : StT) : Prop where
  op : openC u s.cells = openC u s'.cells
  kn : ∀ d, d ≤ u → ∀ p, s.known d p = s'.known d p
  rw : ∀ d, d ≤ u → s.rows.getD d [] = s'.rows.getD d []
  ln : min s.rows.length (u + 1) = min s'.rows.length (u + 1)
section
variable {u : Nat} {s s' s2 : StT} {cs cs' : CellsT} {k k' : KnownT}
theorem Sim.refl : Sim u s s := ⟨rfl, fun _ _ _ => rfl, fun _ _ => rfl, rfl⟩
theorem Sim.symm (h : Sim u s s') : Sim u s' s := ⟨h.op.symm, fun d l p => (h.kn d l p).symm, fun d l => (h.rw d l).symm, h.ln.symm⟩
theorem Sim.trans (h : Sim u s s') (g : Sim u s' s2) : Sim u s s2 := ⟨h.op.trans g.op, fun d l p => (h.kn d l p).trans (g.kn d l p), fun d l => (h.rw d l).trans (g.rw d l), h.ln.trans g.ln⟩
theorem open_len (h : openC u cs = openC u cs') : cs.length = cs'.length := by
  have := congrArg List.length h
  unfold openC at this
  rwa [List.length_map, List.length_map] at this
theorem open_at (h : openC u cs = openC u cs') (c : Nat) : lowO u (cs.getD c none) = lowO u (cs'.getD c none) := by
  have e := congrArg (fun l : CellsT => l[c]?) h
  have e' : (cs[c]?).map (lowO u) = (cs'[c]?).map (lowO u) := by
    have : (openC u cs)[c]? = (openC u cs')[c]? := e
    unfold openC at this
    rw [List.getElem?_map, List.getElem?_map] at this
    exact this
  rw [List.getD_eq_getElem?_getD, List.getD_eq_getElem?_getD]
  cases a : cs[c]? with
  | none =>
    rw [a] at e'
    cases b : cs'[c]? with
    | none => rfl
    | some y =>
      rw [b] at e'
      cases e'
  | some x =>
    rw [a] at e'
    cases b : cs'[c]? with
    | none =>
      rw [b] at e'
      cases e'
    | some y =>
      rw [b] at e'
      exact Option.some.inj e'
/-! ### a session begins -/
theorem learn_sim {m m' : Nat} (hm : min m u = min m' u) (hk : ∀ d, d ≤ u → ∀ p, k d p = k' d p) {o o' : Option Held} (e : lowO u o = lowO u o') : ∀ d, d ≤ u → ∀ p, learnC m k o d p = learnC m' k' o' d p := by
  have deep : ∀ (m : Nat) (k : KnownT) (o : Option Held), lowO u o = none → ∀ d, d ≤ u → ∀ p, learnC m k o d p = k d p := by
    intro m k o e d l p
    cases o with
    | none => rfl
    | some h =>
      have hd : ¬ h.1 ≤ u := fun z => by rw [lowO_some z] at e; cases e
      show (if h.1 ≤ m then learnH k h else k) d p = k d p
      split
      · unfold learnH
        split
        · exact knSet_ne fun z => hd (z.1 ▸ l)
        · rfl
      · rfl
  intro d l p
  cases a : lowO u o with
  | none => rw [deep m k o a d l p, deep m' k' o' (e ▸ a) d l p, hk d l p]
  | some h =>
    have ho : o = some h := by
      cases o with
      | none => cases a
      | some g =>
        by_cases c : g.1 ≤ u
        · rw [lowO_some c] at a
          exact a
        · rw [lowO_deep c] at a
          cases a
    have hl : h.1 ≤ u := Classical.byContradiction fun z => by rw [ho, lowO_deep z] at a; cases a
    obtain rfl := low_same e ho hl
    subst ho
    show (if h.1 ≤ m then learnH k h else k) d p = (if h.1 ≤ m' then learnH k' h else k') d p
    have iff : h.1 ≤ m ↔ h.1 ≤ m' := by omega
    by_cases c : h.1 ≤ m
    · rw [if_pos c, if_pos (iff.mp c)]
      unfold learnH
      rw [hk h.1 hl]
      split
      · unfold knSet
        split
        · rfl
        · exact hk d l p
      · exact hk d l p
    · rw [if_neg c, if_neg (fun z => c (iff.mpr z))]
      exact hk d l p
theorem fold_sim {m m' : Nat} (hm : min m u = min m' u) : ∀ {cs cs' : CellsT} {k k' : KnownT}, openC u cs = openC u cs' → (∀ d, d ≤ u → ∀ p, k d p = k' d p) → ∀ d, d ≤ u → ∀ p, cs.foldl (learnC m) k d p = cs'.foldl (learnC m') k' d p
  | [], [], _, _, _, hk => hk
  | [], _ :: _, _, _, e, _ => by cases e
  | _ :: _, [], _, _, e, _ => by cases e
  | o :: cs, o' :: cs', k, k', e, hk => by
    obtain ⟨e1, e2⟩ := List.cons.inj e
    exact fold_sim hm (cs := cs) (cs' := cs') e2 (learn_sim hm hk e1)
theorem live_sim (hk : ∀ d, d ≤ u → ∀ p, k d p = k' d p) {o o' : Option Held} (e : lowO u o = lowO u o') {d p : Nat} (l : d ≤ u) : (liveB k o && decide (pairOf o = (d, p))) = (liveB k' o' && decide (pairOf o' = (d, p))) := by
  have none_ : ∀ (k : KnownT) (o : Option Held), lowO u o = none → (liveB k o && decide (pairOf o = (d, p))) = false := by
    intro k o e
    cases o with
    | none => rfl
    | some h =>
      have hd : ¬ h.1 ≤ u := fun z => by rw [lowO_some z] at e; cases e
      have : ¬ pairOf (some h) = (d, p) := fun z => hd (by have := congrArg Prod.fst z; have : h.1 = d := this; omega)
      rw [decide_eq_false this, Bool.and_false]
  cases a : lowO u o with
  | none => rw [none_ k o a, none_ k' o' (e ▸ a)]
  | some h =>
    have ho : o = some h := by
      cases o with
      | none => cases a
      | some g =>
        by_cases c : g.1 ≤ u
        · rw [lowO_some c] at a
          exact a
        · rw [lowO_deep c] at a
          cases a
    have hl : h.1 ≤ u := Classical.byContradiction fun z => by rw [ho, lowO_deep z] at a; cases a
    rw [low_same e ho hl, ho]
    show (decide (k h.1 h.2.1 = some h.2.2) && _) = (decide (k' h.1 h.2.1 = some h.2.2) && _)
    rw [hk h.1 hl]
theorem count_sim (hk : ∀ d, d ≤ u → ∀ p, k d p = k' d p) {d p : Nat} (l : d ≤ u) : ∀ {cs cs' : CellsT}, openC u cs = openC u cs' → (livePairs k cs).count (d, p) = (livePairs k' cs').count (d, p)
  | [], [], _ => rfl
  | [], _ :: _, e => by cases e
  | _ :: _, [], e => by cases e
  | o :: cs, o' :: cs', e => by
    obtain ⟨e1, e2⟩ := List.cons.inj e
    have ih := count_sim hk (p := p) l e2
    have one : ∀ (k : KnownT) (o : Option Held) (cs : CellsT), (livePairs k (o :: cs)).count (d, p) = (livePairs k cs).count (d, p) + if (liveB k o && decide (pairOf o = (d, p))) = true then 1 else 0 := by
      intro k o cs
      unfold livePairs
      rw [List.filter_cons]
      cases a : liveB k o with
      | false => simp
      | true =>
        rw [if_pos rfl, List.map_cons, List.count_cons]
        by_cases c : pairOf o = (d, p) <;> simp [c]
    rw [one k o cs, one k' o' cs', ih, live_sim hk e1 l]
theorem begin_sim {pages copies m m' : Nat} (h : openC u s.cells = openC u s'.cells) (hm : min m u = min m' u) : Sim u (s.begin pages copies m) (s'.begin pages copies m') := by
  have hk : ∀ d, d ≤ u → ∀ p, knownOf m s.cells d p = knownOf m' s'.cells d p := fold_sim hm h fun _ _ _ => rfl
  refine ⟨h, hk, fun d l => ?_, ?_⟩
  · show (beginR s.cells pages copies m).getD d [] = (beginR s'.cells pages copies m').getD d []
    unfold beginR
    by_cases c : d < m + 1
    · rw [getD_map_range c, getD_map_range (show d < m' + 1 by omega)]
      unfold missR
      congr 1
      funext p
      unfold missP
      rw [hk d l p, count_sim hk l h]
    · rw [List.getD_eq_getElem?_getD, List.getElem?_eq_none (by simp; omega), List.getD_eq_getElem?_getD, List.getElem?_eq_none (by simp; omega)]
  · show min (beginR s.cells pages copies m).length (u + 1) = min (beginR s'.cells pages copies m').length (u + 1)
    unfold beginR
    rw [List.length_map, List.length_range, List.length_map, List.length_range]
    omega
/-! ### pages are put -/
theorem put_deep {copies : Nat} {x : DeedT} (h : Sim u s s') (l : ¬ x.1 ≤ u) : Sim u (s.put copies x) s' := by
  refine ⟨h.op, fun d dl p => ?_, fun d dl => ?_, ?_⟩
  · show knSet s.known x.1 x.2.1 _ d p = _
    rw [knSet_ne (fun z : d = x.1 ∧ p = x.2.1 => l (z.1 ▸ dl))]
    exact h.kn d dl p
  · show (s.rows.set x.1 _).getD d [] = _
    rw [getD_set, if_neg (fun z : d = x.1 ∧ x.1 < s.rows.length => l (z.1 ▸ dl))]
    exact h.rw d dl
  · show min (s.rows.set x.1 _).length (u + 1) = _
    rw [List.length_set]
    exact h.ln
theorem put_sim {copies : Nat} {x : DeedT} (h : Sim u s s') (l : x.1 ≤ u) : Sim u (s.put copies x) (s'.put copies x) := by
  have hln := h.ln
  refine ⟨h.op, fun d dl p => ?_, fun d dl => ?_, ?_⟩
  · show knSet s.known x.1 x.2.1 _ d p = knSet s'.known x.1 x.2.1 _ d p
    unfold knSet verOf
    rw [h.kn x.1 l, h.kn d dl]
  · show (s.rows.set x.1 _).getD d [] = (s'.rows.set x.1 _).getD d []
    rw [getD_set, getD_set, h.rw x.1 l, h.rw d dl]
    by_cases c : d = x.1 ∧ x.1 < s.rows.length
    · rw [if_pos c, if_pos ⟨c.1, by omega⟩]
    · rw [if_neg c, if_neg fun z => c ⟨z.1, by omega⟩]
  · show min (s.rows.set x.1 _).length (u + 1) = min (s'.rows.set x.1 _).length (u + 1)
    rw [List.length_set, List.length_set]
    exact hln
def hupM (u : Nat) (m : MomT) : MomT := m.filter fun x => decide (x.1 ≤ u)
theorem puts_sim {copies : Nat} : ∀ (m : MomT) {s s' : StT}, Sim u s s' → Sim u (m.foldl (StT.put copies) s) ((hupM u m).foldl (StT.put copies) s')
  | [], _, _, h => h
  | x :: m, s, s', h => by
    unfold hupM
    rw [List.filter_cons]
    by_cases c : x.1 ≤ u
    · rw [if_pos (decide_eq_true c)]
      exact puts_sim m (put_sim h c)
    · rw [if_neg (by simpa using c)]
      exact puts_sim m (put_deep h c)
/-! ### cells are sealed, in the way true -/
theorem bare_sim {d : Nat} {sh sh' : Nat → Bool} (hk : ∀ p, k d p = k' d p) (hs : ∀ c, sh c = sh' c) (x : List Nat × TakenT) (c : Nat) : bare1 k d sh x c = bare1 k' d sh' x c := by
  unfold bare1
  split
  · rfl
  · rw [hk, hs]
theorem again_no {d : Nat} {x : List Nat × TakenT} {y : Nat × Held} (h : ¬ y.2.1 = d) : again1 d x y = x := if_neg h
theorem items_cons (k : KnownT) (cs : CellsT) (c : Nat) (l : List Nat) : liveItems k cs (c :: l) = (if liveAt k cs c = true then [(c, (cs.getD c none).getD (0, 0, 0, 0))] else []) ++ liveItems k cs l := by
  unfold liveItems
  rw [List.filter_cons]
  split <;> rfl
theorem item_step {d : Nat} (l : d ≤ u) (hk : ∀ d, d ≤ u → ∀ p, k d p = k' d p) {o o' : Option Held} (e : lowO u o = lowO u o') (c : Nat) (x : List Nat × TakenT) :
    (if liveB k o = true then [(c, o.getD (0, 0, 0, 0))] else []).foldl (again1 d) x = (if liveB k' o' = true then [(c, o'.getD (0, 0, 0, 0))] else []).foldl (again1 d) x := by
  have no : ∀ (k : KnownT) (o : Option Held), lowO u o = none → (if liveB k o = true then [(c, o.getD (0, 0, 0, 0))] else []).foldl (again1 d) x = x := by
    intro k o e
    cases o with
    | none => rfl
    | some h =>
      have hd : ¬ h.1 ≤ u := fun z => by rw [lowO_some z] at e; cases e
      split
      · exact again_no (y := (c, h)) fun z => hd (by have : h.1 = d := z; omega)
      · rfl
  cases a : lowO u o with
  | none => rw [no k o a, no k' o' (e ▸ a)]
  | some h =>
    have ho : o = some h := by
      cases o with
      | none => cases a
      | some g =>
        by_cases c : g.1 ≤ u
        · rw [lowO_some c] at a
          exact a
        · rw [lowO_deep c] at a
          cases a
    have hl : h.1 ≤ u := Classical.byContradiction fun z => by rw [ho, lowO_deep z] at a; cases a
    rw [low_same e ho hl, ho]
    have : liveB k (some h) = liveB k' (some h) := by
      show decide (k h.1 h.2.1 = some h.2.2) = decide (k' h.1 h.2.1 = some h.2.2)
      rw [hk h.1 hl]
    rw [this]
theorem items_sim {d : Nat} (l : d ≤ u) (hk : ∀ d, d ≤ u → ∀ p, k d p = k' d p) (e : openC u cs = openC u cs') : ∀ (fresh : List Nat) (x : List Nat × TakenT), (liveItems k cs fresh).foldl (again1 d) x = (liveItems k' cs' fresh).foldl (again1 d) x
  | [], _ => rfl
  | c :: f, x => by
    rw [items_cons, items_cons, List.foldl_append, List.foldl_append]
    have h := item_step (d := d) l hk (open_at e c) c x
    unfold liveAt
    rw [h]
    exact items_sim l hk e f _
theorem take_sim {d : Nat} (l : d ≤ u) (hk : ∀ d, d ≤ u → ∀ p, k d p = k' d p) (e : openC u cs = openC u cs') (fresh : List Nat) (x : List Nat × TakenT) : takeD .tru k cs fresh d x = takeD .tru k' cs' fresh d x := by
  unfold takeD
  rw [items_sim l hk e]
  have : bare1 k d (shutB .tru k cs) = bare1 k' d (shutB .tru k' cs') := funext fun x => funext fun c => bare_sim (hk d l) (fun _ => rfl) x c
  rw [this]
/-- the turns of the drawers up to u: alike -/
structure TSim (u n n' : Nat) (a b : List (List Nat) × TakenT) : Prop where
  tk : ∀ c, lowO u (a.2 c) = lowO u (b.2 c)
  rw : ∀ d, d ≤ u → a.1.getD d [] = b.1.getD d []
  la : a.1.length = n
  lb : b.1.length = n'
theorem low_turns {n n' : Nat} (hk : ∀ d, d ≤ u → ∀ p, k d p = k' d p) (e : openC u cs = openC u cs') (fresh : List Nat) : ∀ (ds : List Nat), (∀ d ∈ ds, d ≤ u ∧ d < n ∧ d < n') → ∀ {a b : List (List Nat) × TakenT}, TSim u n n' a b → a.2 = b.2 → TSim u n n' (ds.foldl (turn1 .tru k cs fresh) a) (ds.foldl (turn1 .tru k' cs' fresh) b) ∧ (ds.foldl (turn1 .tru k cs fresh) a).2 = (ds.foldl (turn1 .tru k' cs' fresh) b).2
  | [], _, _, _, T, q => ⟨T, q⟩
  | d :: ds, h, a, b, T, q => by
    obtain ⟨h1, h2, h3⟩ := h d List.mem_cons_self
    have et : takeD .tru k cs fresh d (a.1.getD d [], a.2) = takeD .tru k' cs' fresh d (b.1.getD d [], b.2) := by rw [take_sim h1 hk e, T.rw d h1, q]
    refine low_turns hk e fresh ds (fun y hy => h y (List.mem_cons_of_mem _ hy)) (a := turn1 .tru k cs fresh a d) (b := turn1 .tru k' cs' fresh b d) ⟨fun c => ?_, fun j hj => ?_, ?_, ?_⟩ ?_
    · show lowO u ((takeD .tru k cs fresh d (a.1.getD d [], a.2)).2 c) = lowO u ((takeD .tru k' cs' fresh d (b.1.getD d [], b.2)).2 c)
      rw [et]
    · show (a.1.set d (takeD .tru k cs fresh d (a.1.getD d [], a.2)).1).getD j [] = (b.1.set d (takeD .tru k' cs' fresh d (b.1.getD d [], b.2)).1).getD j []
      rw [getD_set, getD_set, et, T.la, T.lb, T.rw j hj]
      by_cases c : j = d
      · rw [if_pos ⟨c, h2⟩, if_pos ⟨c, h3⟩]
      · rw [if_neg (fun z => c z.1), if_neg (fun z => c z.1)]
    · show (a.1.set d _).length = n
      rw [List.length_set]
      exact T.la
    · show (b.1.set d _).length = n'
      rw [List.length_set]
      exact T.lb
    · show (takeD .tru k cs fresh d (a.1.getD d [], a.2)).2 = (takeD .tru k' cs' fresh d (b.1.getD d [], b.2)).2
      rw [et]
/-- a deeper drawer's turn changes nothing above -/
theorem again_deep {d : Nat} (l : ¬ d ≤ u) (x : List Nat × TakenT) (y : Nat × Held) (c : Nat) : lowO u ((again1 d x y).2 c) = lowO u (x.2 c) := by
  unfold again1
  split
  · rename_i hd
    split
    · rfl
    · rename_i hn
      show lowO u (tkSet x.2 y.1 y.2 c) = _
      by_cases z : c = y.1
      · rw [z, tkSet_same, lowO_deep (by omega), show x.2 y.1 = none by simpa using hn] <;> rfl
      · rw [tkSet_ne z]
  · rfl
theorem bare_deep {d : Nat} (l : ¬ d ≤ u) (sh : Nat → Bool) (x : List Nat × TakenT) (y c : Nat) : lowO u ((bare1 k d sh x y).2 c) = lowO u (x.2 c) := by
  unfold bare1
  split
  · rfl
  · split
    · rfl
    · rename_i hn
      rw [Bool.or_eq_true, not_or] at hn
      show lowO u (tkSet x.2 y _ c) = _
      by_cases z : c = y
      · rw [z, tkSet_same, lowO_deep l, show x.2 y = none by simpa using hn.1] <;> rfl
      · rw [tkSet_ne z]
theorem fold_deep {α : Type} {f : List Nat × TakenT → α → List Nat × TakenT} (h : ∀ x y c, lowO u ((f x y).2 c) = lowO u (x.2 c)) : ∀ (l : List α) (x : List Nat × TakenT) (c : Nat), lowO u ((l.foldl f x).2 c) = lowO u (x.2 c)
  | [], _, _ => rfl
  | y :: l, x, c => (fold_deep h l (f x y) c).trans (h x y c)
theorem take_deep {d : Nat} {w : Way} (l : ¬ d ≤ u) (fresh : List Nat) (x : List Nat × TakenT) (c : Nat) : lowO u ((takeD w k cs fresh d x).2 c) = lowO u (x.2 c) :=
  (fold_deep (fun x y c => bare_deep l _ x y c) _ _ c).trans (fold_deep (fun x y c => again_deep l x y c) _ _ c)
theorem deep_turns {w : Way} (fresh : List Nat) : ∀ (ds : List Nat), (∀ d ∈ ds, ¬ d ≤ u) → ∀ (a : List (List Nat) × TakenT), (∀ c, lowO u ((ds.foldl (turn1 w k cs fresh) a).2 c) = lowO u (a.2 c)) ∧ (∀ j, j ≤ u → (ds.foldl (turn1 w k cs fresh) a).1.getD j [] = a.1.getD j []) ∧ (ds.foldl (turn1 w k cs fresh) a).1.length = a.1.length
  | [], _, _ => ⟨fun _ => rfl, fun _ _ => rfl, rfl⟩
  | d :: ds, h, a => by
    have hd := h d List.mem_cons_self
    obtain ⟨h1, h2, h3⟩ := deep_turns (w := w) fresh ds (fun y hy => h y (List.mem_cons_of_mem _ hy)) (turn1 w k cs fresh a d)
    refine ⟨fun c => (h1 c).trans (take_deep hd fresh _ c), fun j hj => (h2 j hj).trans ?_, h3.trans ?_⟩
    · show (a.1.set d _).getD j [] = _
      rw [getD_set, if_neg (fun z : j = d ∧ d < a.1.length => hd (z.1 ▸ hj))]
    · show (a.1.set d _).length = _
      exact List.length_set
theorem range_cut (n q : Nat) : List.range n = List.range (min n q) ++ (List.range (n - min n q)).map (min n q + ·) := by
  rw [← List.range_add]
  congr 1
  omega
theorem turns_sim (h : Sim u s s') (fresh : List Nat) : TSim u s.rows.length s'.rows.length (turns .tru s.known s.cells s.rows fresh) (turns .tru s'.known s'.cells s'.rows fresh) := by
  have hln := h.ln
  show TSim u _ _ ((List.range s.rows.length).foldl _ _) ((List.range s'.rows.length).foldl _ _)
  rw [range_cut s.rows.length (u + 1), range_cut s'.rows.length (u + 1), List.foldl_append, List.foldl_append, ← hln]
  obtain ⟨T, _⟩ := low_turns (n := s.rows.length) (n' := s'.rows.length) h.kn h.op fresh (List.range (min s.rows.length (u + 1))) (fun d hd => by have := List.mem_range.mp hd; omega) (a := (s.rows, tk0)) (b := (s'.rows, tk0)) ⟨fun _ => rfl, h.rw, rfl, rfl⟩ rfl
  generalize (List.range (min s.rows.length (u + 1))).foldl (turn1 .tru s.known s.cells fresh) (s.rows, tk0) = a at T ⊢
  generalize (List.range (min s.rows.length (u + 1))).foldl (turn1 .tru s'.known s'.cells fresh) (s'.rows, tk0) = b at T ⊢
  obtain ⟨a1, a2, a3⟩ := deep_turns (u := u) (w := .tru) (k := s.known) (cs := s.cells) fresh ((List.range (s.rows.length - min s.rows.length (u + 1))).map (min s.rows.length (u + 1) + ·)) (fun d hd => by
    obtain ⟨y, hy, rfl⟩ := List.mem_map.mp hd
    have := List.mem_range.mp hy
    omega) a
  obtain ⟨b1, b2, b3⟩ := deep_turns (u := u) (w := .tru) (k := s'.known) (cs := s'.cells) fresh ((List.range (s'.rows.length - min s.rows.length (u + 1))).map (min s.rows.length (u + 1) + ·)) (fun d hd => by
    obtain ⟨y, hy, rfl⟩ := List.mem_map.mp hd
    have := List.mem_range.mp hy
    omega) b
  exact ⟨fun c => (a1 c).trans ((T.tk c).trans (b1 c).symm), fun j hj => (a2 j hj).trans ((T.rw j hj).trans (b2 j hj).symm), a3.trans T.la, b3.trans T.lb⟩
theorem setAll_open {t t' : TakenT} (h : ∀ c, lowO u (t c) = lowO u (t' c)) : ∀ (fresh : List Nat) {cs cs' : CellsT}, openC u cs = openC u cs' → openC u (setAll t cs fresh) = openC u (setAll t' cs' fresh)
  | [], _, _, e => e
  | c :: f, cs, cs', e => by
    refine setAll_open h f (cs := cs.set c (t c)) (cs' := cs'.set c (t' c)) ?_
    unfold openC at e ⊢
    rw [List.map_set, List.map_set, e]
    exact congrArg _ (h c)
theorem seal_sim (h : Sim u s s') (drawn : List Nat) : Sim u (s.seal .tru drawn) (s'.seal .tru drawn) := by
  have T := turns_sim h drawn
  have hln := h.ln
  refine ⟨setAll_open T.tk drawn h.op, h.kn, T.rw, ?_⟩
  show min (turns .tru s.known s.cells s.rows drawn).1.length (u + 1) = min (turns .tru s'.known s'.cells s'.rows drawn).1.length (u + 1)
  rw [T.la, T.lb]
  exact hln
/-! ### a life -/
def lookX (u : Nat) (x : CellsT × List Nat) : CellsT × List Nat := (openC u x.1, x.2)
structure SimH (u : Nat) (a b : StT × HistT) : Prop where
  s : Sim u a.1 b.1
  h : a.2.map (lookX u) = b.2.map (lookX u)
theorem SimH.symm {a b : StT × HistT} (h : SimH u a b) : SimH u b a := ⟨h.s.symm, h.h.symm⟩
theorem SimH.trans {a b c : StT × HistT} (h : SimH u a b) (g : SimH u b c) : SimH u a c := ⟨h.s.trans g.s, h.h.trans g.h⟩
theorem mom_sim {copies : Nat} {sets : Nat → List Nat} {a b : StT × HistT} (m : MomT) (h : SimH u a b) : SimH u (momT .tru copies sets a m) (momT .tru copies sets b (hupM u m)) := by
  have hl : a.2.length = b.2.length := by
    have := congrArg List.length h.h
    rwa [List.length_map, List.length_map] at this
  have P := puts_sim (copies := copies) m h.s
  have S := seal_sim P (sets (b.2.length - 1))
  unfold momT
  rw [hl]
  refine ⟨S, ?_⟩
  show (a.2 ++ [_]).map (lookX u) = (b.2 ++ [_]).map (lookX u)
  rw [List.map_append, List.map_append, h.h]
  congr 1
  show [(openC u _, _)] = [(openC u _, _)]
  rw [S.op]
  rfl
theorem story_sim {copies : Nat} {sets : Nat → List Nat} : ∀ (t : StoryT) {a b : StT × HistT}, SimH u a b → SimH u (t.foldl (momT .tru copies sets) a) ((t.map (hupM u)).foldl (momT .tru copies sets) b)
  | [], _, _, h => h
  | m :: t, _, _, h => story_sim t (mom_sim m h)
def hupT (u : Nat) (L : LifeT) : LifeT := L.map fun s => (min s.1 u, s.2.map (hupM u))
theorem life_sim {pages copies : Nat} {sets : Nat → List Nat} : ∀ (L : LifeT) {a b : StT × HistT}, SimH u a b → SimH u (L.foldl (sessT .tru pages copies sets) a) ((hupT u L).foldl (sessT .tru pages copies sets) b)
  | [], _, _, h => h
  | x :: L, a, b, h => life_sim L (story_sim x.2 (a := (a.1.begin pages copies x.1, a.2)) (b := (b.1.begin pages copies (min x.1 u), b.2)) ⟨begin_sim h.s.op (by omega), h.h⟩)
theorem run_sim (n pages copies : Nat) (sets : Nat → List Nat) (L : LifeT) : SimH u (runT n .tru pages copies sets L) (runT n .tru pages copies sets (hupT u L)) := life_sim L ⟨Sim.refl, rfl⟩
/-- lives alike above: runs alike above -/
theorem run_alike {n pages copies : Nat} {sets : Nat → List Nat} {L M : LifeT} (h : hupT u L = hupT u M) : SimH u (runT n .tru pages copies sets L) (runT n .tru pages copies sets M) := by
  have a := run_sim (u := u) n pages copies sets L
  rw [h] at a
  exact a.trans (run_sim (u := u) n pages copies sets M).symm
theorem since_look {a b : HistT} (h : a.map (lookX u) = b.map (lookX u)) (x y : Nat) : sinceT a x y = sinceT b x y := by
  have e : ∀ l : HistT, sinceT l x y = (((l.map (lookX u)).take (y + 1)).drop (x + 1)).flatMap (·.2) := fun l => by
    unfold sinceT
    rw [← List.map_take, ← List.map_drop, List.flatMap_map]
    rfl
  rw [e a, e b, h]
theorem view_look {n : Nat} {a b : HistT} (h : a.map (lookX u) = b.map (lookX u)) (ts : List Nat) : viewT n u a ts = viewT n u b ts := by
  unfold viewT
  refine List.map_congr_left fun i _ => ?_
  unfold lookT
  rw [since_look h]
  congr 1
  have e : ∀ l : HistT, openC u (l.getD (timeT ts i) ([], [])).1 = ((l.map (lookX u)).getD (timeT ts i) ([], [])).1 := fun l => by
    rw [List.getD_eq_getElem?_getD, List.getD_eq_getElem?_getD, List.getElem?_map]
    cases l[timeT ts i]? <;> rfl
  rw [e a, e b, h]
end
end Hd

set_option maxHeartbeats 4000000
namespace K04
open PySem PySem.Spec PyProof.Rows L2 Hd
/-! ### the text -/
def topS (i : Nat) : Stmt := PySem.Challenge.pw_hushdrawers_k04_whole_hushed.main.body.getD i (.Pass ⟨0, 0, 0, 0⟩)
abbrev c_DrawerError : Stmt := topS 2
abbrev c_BadHouse : Stmt := topS 3
abbrev s_BadHouse___init__ : Stmt := inClass (topS 3) 0
abbrev n_BadHouse___init__ : List Str := ["self", "word"]
theorem sc_BadHouse___init__ : FnScope n_BadHouse___init__ ["self", "word"] (defScope s_BadHouse___init__) := ⟨rfl, rfl, rfl, by decide +kernel, rfl, by decide +kernel, by decide +kernel⟩
abbrev c_BadStory : Stmt := topS 4
abbrev s_BadStory___init__ : Stmt := inClass (topS 4) 0
abbrev n_BadStory___init__ : List Str := ["self", "index"]
theorem sc_BadStory___init__ : FnScope n_BadStory___init__ ["self", "index"] (defScope s_BadStory___init__) := ⟨rfl, rfl, rfl, by decide +kernel, rfl, by decide +kernel, by decide +kernel⟩
abbrev c_BadLife : Stmt := topS 5
abbrev s_BadLife___init__ : Stmt := inClass (topS 5) 0
abbrev n_BadLife___init__ : List Str := ["self", "index"]
theorem sc_BadLife___init__ : FnScope n_BadLife___init__ ["self", "index"] (defScope s_BadLife___init__) := ⟨rfl, rfl, rfl, by decide +kernel, rfl, by decide +kernel, by decide +kernel⟩
abbrev c_BadCoins : Stmt := topS 6
abbrev s_BadCoins___init__ : Stmt := inClass (topS 6) 0
abbrev n_BadCoins___init__ : List Str := ["self", "index"]
theorem sc_BadCoins___init__ : FnScope n_BadCoins___init__ ["self", "index"] (defScope s_BadCoins___init__) := ⟨rfl, rfl, rfl, by decide +kernel, rfl, by decide +kernel, by decide +kernel⟩
abbrev c_BadDrawer : Stmt := topS 7
abbrev c_BadPage : Stmt := topS 8
abbrev c_BadTimes : Stmt := topS 9
abbrev c_BadNumber : Stmt := topS 10
abbrev s_is_number : Stmt := topS 14
abbrev n_is_number : List Str := ["value", "least", "most"]
theorem sc_is_number : FnScope n_is_number ["value", "least", "most"] (defScope s_is_number) := ⟨rfl, rfl, rfl, by decide +kernel, rfl, by decide +kernel, by decide +kernel⟩
abbrev s_wrong_word : Stmt := topS 15
abbrev n_wrong_word : List Str := ["value", "cells", "sealed", "drawers", "pages", "copies"]
theorem sc_wrong_word : FnScope n_wrong_word ["value"] (defScope s_wrong_word) := ⟨rfl, rfl, rfl, by decide +kernel, rfl, by decide +kernel, by decide +kernel⟩
abbrev s_check_house : Stmt := topS 16
abbrev n_check_house : List Str := ["house", "word"]
theorem sc_check_house : FnScope n_check_house ["house"] (defScope s_check_house) := ⟨rfl, rfl, rfl, by decide +kernel, rfl, by decide +kernel, by decide +kernel⟩
abbrev s_is_drawer : Stmt := topS 17
abbrev n_is_drawer : List Str := ["house", "value"]
theorem sc_is_drawer : FnScope n_is_drawer ["house", "value"] (defScope s_is_drawer) := ⟨rfl, rfl, rfl, by decide +kernel, rfl, by decide +kernel, by decide +kernel⟩
abbrev s_check_drawer : Stmt := topS 18
abbrev n_check_drawer : List Str := ["house", "drawer"]
theorem sc_check_drawer : FnScope n_check_drawer ["house", "drawer"] (defScope s_check_drawer) := ⟨rfl, rfl, rfl, by decide +kernel, rfl, by decide +kernel, by decide +kernel⟩
abbrev s_is_page : Stmt := topS 19
abbrev n_is_page : List Str := ["house", "value"]
theorem sc_is_page : FnScope n_is_page ["house", "value"] (defScope s_is_page) := ⟨rfl, rfl, rfl, by decide +kernel, rfl, by decide +kernel, by decide +kernel⟩
abbrev s_check_page : Stmt := topS 20
abbrev n_check_page : List Str := ["house", "page"]
theorem sc_check_page : FnScope n_check_page ["house", "page"] (defScope s_check_page) := ⟨rfl, rfl, rfl, by decide +kernel, rfl, by decide +kernel, by decide +kernel⟩
abbrev s_is_coin : Stmt := topS 21
abbrev n_is_coin : List Str := ["house", "value"]
theorem sc_is_coin : FnScope n_is_coin ["house", "value"] (defScope s_is_coin) := ⟨rfl, rfl, rfl, by decide +kernel, rfl, by decide +kernel, by decide +kernel⟩
abbrev s_drawn : Stmt := topS 22
abbrev n_drawn : List Str := ["house", "coin", "cells", "sealed", "chosen", "ahead", "cell", "many"]
theorem sc_drawn : FnScope n_drawn ["house", "coin"] (defScope s_drawn) := ⟨rfl, rfl, rfl, by decide +kernel, rfl, by decide +kernel, by decide +kernel⟩
abbrev s_is_deed : Stmt := topS 27
abbrev n_is_deed : List Str := ["house", "value", "drawer", "page", "content"]
theorem sc_is_deed : FnScope n_is_deed ["house", "value"] (defScope s_is_deed) := ⟨rfl, rfl, rfl, by decide +kernel, rfl, by decide +kernel, by decide +kernel⟩
abbrev s_is_moment : Stmt := topS 28
abbrev n_is_moment : List Str := ["house", "value", "deed"]
theorem sc_is_moment : FnScope n_is_moment ["house", "value"] (defScope s_is_moment) := ⟨rfl, rfl, rfl, by decide +kernel, rfl, by decide +kernel, by decide +kernel⟩
abbrev s_check_story : Stmt := topS 29
abbrev n_check_story : List Str := ["house", "story", "at", "moment"]
theorem sc_check_story : FnScope n_check_story ["house", "story"] (defScope s_check_story) := ⟨rfl, rfl, rfl, by decide +kernel, rfl, by decide +kernel, by decide +kernel⟩
abbrev s_is_story : Stmt := topS 30
abbrev n_is_story : List Str := ["house", "value"]
theorem sc_is_story : FnScope n_is_story ["house", "value"] (defScope s_is_story) := ⟨rfl, rfl, rfl, by decide +kernel, rfl, by decide +kernel, by decide +kernel⟩
abbrev s_is_session : Stmt := topS 31
abbrev n_is_session : List Str := ["house", "value", "deepest", "story", "moment", "deed"]
theorem sc_is_session : FnScope n_is_session ["house", "value"] (defScope s_is_session) := ⟨rfl, rfl, rfl, by decide +kernel, rfl, by decide +kernel, by decide +kernel⟩
abbrev s_check_life : Stmt := topS 32
abbrev n_check_life : List Str := ["house", "life", "moments", "at", "session"]
theorem sc_check_life : FnScope n_check_life ["house", "life"] (defScope s_check_life) := ⟨rfl, rfl, rfl, by decide +kernel, rfl, by decide +kernel, by decide +kernel⟩
abbrev s_moment_count : Stmt := topS 33
abbrev n_moment_count : List Str := ["life", "session"]
theorem sc_moment_count : FnScope n_moment_count ["life"] (defScope s_moment_count) := ⟨rfl, rfl, rfl, by decide +kernel, rfl, by decide +kernel, by decide +kernel⟩
abbrev s_check_coins : Stmt := topS 34
abbrev n_check_coins : List Str := ["house", "life", "coins", "at", "coin"]
theorem sc_check_coins : FnScope n_check_coins ["house", "life", "coins"] (defScope s_check_coins) := ⟨rfl, rfl, rfl, by decide +kernel, rfl, by decide +kernel, by decide +kernel⟩
abbrev s_upper_moment : Stmt := topS 35
abbrev n_upper_moment : List Str := ["moment", "drawer", "deed"]
theorem sc_upper_moment : FnScope n_upper_moment ["moment", "drawer"] (defScope s_upper_moment) := ⟨rfl, rfl, rfl, by decide +kernel, rfl, by decide +kernel, by decide +kernel⟩
abbrev s_above : Stmt := topS 36
abbrev n_above : List Str := ["life", "drawer", "sessions", "deepest", "story", "moments", "moment"]
theorem sc_above : FnScope n_above ["life", "drawer"] (defScope s_above) := ⟨rfl, rfl, rfl, by decide +kernel, rfl, by decide +kernel, by decide +kernel⟩
abbrev s_upper : Stmt := topS 37
abbrev n_upper : List Str := ["house", "life", "drawer"]
theorem sc_upper : FnScope n_upper ["house", "life", "drawer"] (defScope s_upper) := ⟨rfl, rfl, rfl, by decide +kernel, rfl, by decide +kernel, by decide +kernel⟩
abbrev s_alike_above : Stmt := topS 38
abbrev n_alike_above : List Str := ["house", "one", "other", "drawer"]
theorem sc_alike_above : FnScope n_alike_above ["house", "one", "other", "drawer"] (defScope s_alike_above) := ⟨rfl, rfl, rfl, by decide +kernel, rfl, by decide +kernel, by decide +kernel⟩
abbrev s_check_way : Stmt := topS 41
abbrev n_check_way : List Str := ["way"]
theorem sc_check_way : FnScope n_check_way ["way"] (defScope s_check_way) := ⟨rfl, rfl, rfl, by decide +kernel, rfl, by decide +kernel, by decide +kernel⟩
abbrev c_Store : Stmt := topS 42
abbrev s_Store___init__ : Stmt := inClass (topS 42) 0
abbrev n_Store___init__ : List Str := ["self", "house", "way", "cells", "_", "pages", "copies"]
theorem sc_Store___init__ : FnScope n_Store___init__ ["self", "house", "way"] (defScope s_Store___init__) := ⟨rfl, rfl, rfl, by decide +kernel, rfl, by decide +kernel, by decide +kernel⟩
abbrev s_Store_begin : Stmt := inClass (topS 42) 1
abbrev n_Store_begin : List Str := ["self", "deepest", "held", "drawer"]
theorem sc_Store_begin : FnScope n_Store_begin ["self", "deepest"] (defScope s_Store_begin) := ⟨rfl, rfl, rfl, by decide +kernel, rfl, by decide +kernel, by decide +kernel⟩
abbrev s_Store_learn : Stmt := inClass (topS 42) 2
abbrev n_Store_learn : List Str := ["self", "held", "drawer", "page", "version", "content"]
theorem sc_Store_learn : FnScope n_Store_learn ["self", "held"] (defScope s_Store_learn) := ⟨rfl, rfl, rfl, by decide +kernel, rfl, by decide +kernel, by decide +kernel⟩
abbrev s_Store_missing : Stmt := inClass (topS 42) 3
abbrev n_Store_missing : List Str := ["self", "drawer", "live", "row", "page", "cell", "held"]
theorem sc_Store_missing : FnScope n_Store_missing ["self", "drawer"] (defScope s_Store_missing) := ⟨rfl, rfl, rfl, by decide +kernel, rfl, by decide +kernel, by decide +kernel⟩
abbrev s_Store_is_live : Stmt := inClass (topS 42) 4
abbrev n_Store_is_live : List Str := ["self", "cell", "drawer", "page", "version", "content"]
theorem sc_Store_is_live : FnScope n_Store_is_live ["self", "cell"] (defScope s_Store_is_live) := ⟨rfl, rfl, rfl, by decide +kernel, rfl, by decide +kernel, by decide +kernel⟩
abbrev s_Store_put : Stmt := inClass (topS 42) 5
abbrev n_Store_put : List Str := ["self", "drawer", "page", "content", "version", "_", "row"]
theorem sc_Store_put : FnScope n_Store_put ["self", "drawer", "page", "content"] (defScope s_Store_put) := ⟨rfl, rfl, rfl, by decide +kernel, rfl, by decide +kernel, by decide +kernel⟩
abbrev s_Store_seal : Stmt := inClass (topS 42) 6
abbrev n_Store_seal : List Str := ["self", "drawn_cells", "fresh", "live", "taken", "drawer", "cell"]
theorem sc_Store_seal : FnScope n_Store_seal ["self", "drawn_cells"] (defScope s_Store_seal) := ⟨rfl, rfl, rfl, by decide +kernel, rfl, by decide +kernel, by decide +kernel⟩
abbrev s_Store_sealed_of : Stmt := inClass (topS 42) 7
abbrev n_Store_sealed_of : List Str := ["self", "drawn_cells", "many", "row", "cell"]
theorem sc_Store_sealed_of : FnScope n_Store_sealed_of ["self", "drawn_cells"] (defScope s_Store_sealed_of) := ⟨rfl, rfl, rfl, by decide +kernel, rfl, by decide +kernel, by decide +kernel⟩
abbrev s_Store_sequence : Stmt := inClass (topS 42) 8
abbrev n_Store_sequence : List Str := ["self", "drawers"]
theorem sc_Store_sequence : FnScope n_Store_sequence ["self"] (defScope s_Store_sequence) := ⟨rfl, rfl, rfl, by decide +kernel, rfl, by decide +kernel, by decide +kernel⟩
abbrev s_Store_take_again : Stmt := inClass (topS 42) 9
abbrev n_Store_take_again : List Str := ["self", "drawer", "live", "taken", "cell", "held"]
theorem sc_Store_take_again : FnScope n_Store_take_again ["self", "drawer", "live", "taken"] (defScope s_Store_take_again) := ⟨rfl, rfl, rfl, by decide +kernel, rfl, by decide +kernel, by decide +kernel⟩
abbrev s_Store_take_bare : Stmt := inClass (topS 42) 10
abbrev n_Store_take_bare : List Str := ["self", "drawer", "fresh", "live", "taken", "row", "cell", "is_shut", "page", "version", "content"]
theorem sc_Store_take_bare : FnScope n_Store_take_bare ["self", "drawer", "fresh", "live", "taken"] (defScope s_Store_take_bare) := ⟨rfl, rfl, rfl, by decide +kernel, rfl, by decide +kernel, by decide +kernel⟩
abbrev s_check_run : Stmt := topS 44
abbrev n_check_run : List Str := ["house", "way", "life", "coins"]
theorem sc_check_run : FnScope n_check_run ["house", "way", "life", "coins"] (defScope s_check_run) := ⟨rfl, rfl, rfl, by decide +kernel, rfl, by decide +kernel, by decide +kernel⟩
abbrev s_check_key : Stmt := topS 45
abbrev n_check_key : List Str := ["house", "life", "drawer"]
theorem sc_check_key : FnScope n_check_key ["house", "life", "drawer"] (defScope s_check_key) := ⟨rfl, rfl, rfl, by decide +kernel, rfl, by decide +kernel, by decide +kernel⟩
abbrev s_run : Stmt := topS 46
abbrev n_run : List Str := ["house", "way", "life", "coins", "store", "history", "deepest", "story", "moment", "drawer", "page", "content", "coin", "sealed"]
theorem sc_run : FnScope n_run ["house", "way", "life", "coins"] (defScope s_run) := ⟨rfl, rfl, rfl, by decide +kernel, rfl, by decide +kernel, by decide +kernel⟩
abbrev s_read : Stmt := topS 47
abbrev n_read : List Str := ["house", "way", "life", "coins", "drawer", "page", "store", "_"]
theorem sc_read : FnScope n_read ["house", "way", "life", "coins", "drawer", "page"] (defScope s_read) := ⟨rfl, rfl, rfl, by decide +kernel, rfl, by decide +kernel, by decide +kernel⟩
abbrev s_waiting : Stmt := topS 48
abbrev n_waiting : List Str := ["house", "way", "life", "coins", "drawer", "store", "_"]
theorem sc_waiting : FnScope n_waiting ["house", "way", "life", "coins", "drawer"] (defScope s_waiting) := ⟨rfl, rfl, rfl, by decide +kernel, rfl, by decide +kernel, by decide +kernel⟩
abbrev s_places : Stmt := topS 49
abbrev n_places : List Str := ["house", "way", "life", "coins", "drawer", "store", "_", "found", "cell", "held"]
theorem sc_places : FnScope n_places ["house", "way", "life", "coins", "drawer"] (defScope s_places) := ⟨rfl, rfl, rfl, by decide +kernel, rfl, by decide +kernel, by decide +kernel⟩
abbrev s_found_later : Stmt := topS 50
abbrev n_found_later : List Str := ["house", "way", "life", "coins", "drawer", "page", "store", "_"]
theorem sc_found_later : FnScope n_found_later ["house", "way", "life", "coins", "drawer", "page"] (defScope s_found_later) := ⟨rfl, rfl, rfl, by decide +kernel, rfl, by decide +kernel, by decide +kernel⟩
abbrev s_check_times : Stmt := topS 51
abbrev n_check_times : List Str := ["life", "times", "least", "at"]
theorem sc_check_times : FnScope n_check_times ["life", "times"] (defScope s_check_times) := ⟨rfl, rfl, rfl, by decide +kernel, rfl, by decide +kernel, by decide +kernel⟩
abbrev s_opened : Stmt := topS 52
abbrev n_opened : List Str := ["cells", "drawer", "held"]
theorem sc_opened : FnScope n_opened ["cells", "drawer"] (defScope s_opened) := ⟨rfl, rfl, rfl, by decide +kernel, rfl, by decide +kernel, by decide +kernel⟩
abbrev s_seen : Stmt := topS 53
abbrev n_seen : List Str := ["history", "drawer", "times", "shown", "before", "at", "since", "state", "cell"]
theorem sc_seen : FnScope n_seen ["history", "drawer", "times"] (defScope s_seen) := ⟨rfl, rfl, rfl, by decide +kernel, rfl, by decide +kernel, by decide +kernel⟩
abbrev s_view : Stmt := topS 54
abbrev n_view : List Str := ["house", "way", "life", "coins", "drawer", "times", "_", "history"]
theorem sc_view : FnScope n_view ["house", "way", "life", "coins", "drawer", "times"] (defScope s_view) := ⟨rfl, rfl, rfl, by decide +kernel, rfl, by decide +kernel, by decide +kernel⟩
abbrev s_looks : Stmt := topS 55
abbrev n_looks : List Str := ["house", "way", "life", "coins", "drawer", "_", "history"]
theorem sc_looks : FnScope n_looks ["house", "way", "life", "coins", "drawer"] (defScope s_looks) := ⟨rfl, rfl, rfl, by decide +kernel, rfl, by decide +kernel, by decide +kernel⟩
abbrev s_check_often : Stmt := topS 57
abbrev n_check_often : List Str := ["is_often"]
theorem sc_check_often : FnScope n_check_often ["is_often"] (defScope s_check_often) := ⟨rfl, rfl, rfl, by decide +kernel, rfl, by decide +kernel, by decide +kernel⟩
abbrev s_shown : Stmt := topS 58
abbrev n_shown : List Str := ["house", "way", "life", "coins", "drawer", "is_often", "_", "history", "times"]
theorem sc_shown : FnScope n_shown ["house", "way", "life", "coins", "drawer", "is_often"] (defScope s_shown) := ⟨rfl, rfl, rfl, by decide +kernel, rfl, by decide +kernel, by decide +kernel⟩
abbrev s_differs : Stmt := topS 59
abbrev n_differs : List Str := ["house", "way", "life", "coins", "drawer", "is_often", "bare", "told"]
theorem sc_differs : FnScope n_differs ["house", "way", "life", "coins", "drawer", "is_often"] (defScope s_differs) := ⟨rfl, rfl, rfl, by decide +kernel, rfl, by decide +kernel, by decide +kernel⟩
abbrev s_is_parted : Stmt := topS 60
abbrev n_is_parted : List Str := ["house", "way", "life", "coins", "drawer", "is_often"]
theorem sc_is_parted : FnScope n_is_parted ["house", "way", "life", "coins", "drawer", "is_often"] (defScope s_is_parted) := ⟨rfl, rfl, rfl, by decide +kernel, rfl, by decide +kernel, by decide +kernel⟩
abbrev s__law_taken : Stmt := topS 62
abbrev n__law_taken : List Str := ["row", "many", "found", "cell"]
theorem sc__law_taken : FnScope n__law_taken ["row", "many"] (defScope s__law_taken) := ⟨rfl, rfl, rfl, by decide +kernel, rfl, by decide +kernel, by decide +kernel⟩
abbrev s__law_pick : Stmt := topS 63
abbrev n__law_pick : List Str := ["row", "things"]
theorem sc__law_pick : FnScope n__law_pick ["row", "things"] (defScope s__law_pick) := ⟨rfl, rfl, rfl, by decide +kernel, rfl, by decide +kernel, by decide +kernel⟩
abbrev s__law_alike : Stmt := topS 64
abbrev n__law_alike : List Str := ["found", "due", "k"]
theorem sc__law_alike : FnScope n__law_alike ["found", "due"] (defScope s__law_alike) := ⟨rfl, rfl, rfl, by decide +kernel, rfl, by decide +kernel, by decide +kernel⟩
abbrev s__law_choices : Stmt := topS 65
abbrev n__law_choices : List Str := ["many", "some", "found", "k"]
theorem sc__law_choices : FnScope n__law_choices ["many", "some"] (defScope s__law_choices) := ⟨rfl, rfl, rfl, by decide +kernel, rfl, by decide +kernel, by decide +kernel⟩
abbrev s__law_sets : Stmt := topS 66
abbrev n__law_sets : List Str := ["cells", "many", "found", "turn", "longer", "one", "cell"]
theorem sc__law_sets : FnScope n__law_sets ["cells", "many"] (defScope s__law_sets) := ⟨rfl, rfl, rfl, by decide +kernel, rfl, by decide +kernel, by decide +kernel⟩
abbrev s__law_house : Stmt := topS 67
abbrev n__law_house : List Str := ["row", "most", "cells"]
theorem sc__law_house : FnScope n__law_house ["row", "most"] (defScope s__law_house) := ⟨rfl, rfl, rfl, by decide +kernel, rfl, by decide +kernel, by decide +kernel⟩
abbrev s__law_moment : Stmt := topS 68
abbrev n__law_moment : List Str := ["row", "house", "deepest", "most", "k"]
theorem sc__law_moment : FnScope n__law_moment ["row", "house", "deepest", "most"] (defScope s__law_moment) := ⟨rfl, rfl, rfl, by decide +kernel, rfl, by decide +kernel, by decide +kernel⟩
abbrev s__law_life : Stmt := topS 69
abbrev n__law_life : List Str := ["row", "house", "moments", "found", "left", "k", "deepest", "many", "j"]
theorem sc__law_life : FnScope n__law_life ["row", "house", "moments"] (defScope s__law_life) := ⟨rfl, rfl, rfl, by decide +kernel, rfl, by decide +kernel, by decide +kernel⟩
abbrev s__law_length : Stmt := topS 70
abbrev n__law_length : List Str := ["life", "one"]
theorem sc__law_length : FnScope n__law_length ["life"] (defScope s__law_length) := ⟨rfl, rfl, rfl, by decide +kernel, rfl, by decide +kernel, by decide +kernel⟩
abbrev s__law_coins : Stmt := topS 71
abbrev n__law_coins : List Str := ["row", "house", "many", "k"]
theorem sc__law_coins : FnScope n__law_coins ["row", "house", "many"] (defScope s__law_coins) := ⟨rfl, rfl, rfl, by decide +kernel, rfl, by decide +kernel, by decide +kernel⟩
abbrev s__law_upper : Stmt := topS 72
abbrev n__law_upper : List Str := ["life", "drawer", "found", "deepest", "story", "moment", "one"]
theorem sc__law_upper : FnScope n__law_upper ["life", "drawer"] (defScope s__law_upper) := ⟨rfl, rfl, rfl, by decide +kernel, rfl, by decide +kernel, by decide +kernel⟩
abbrev s__law_other : Stmt := topS 73
abbrev n__law_other : List Str := ["row", "house", "life", "drawer", "found", "deepest", "story", "moments", "moment", "some"]
theorem sc__law_other : FnScope n__law_other ["row", "house", "life", "drawer"] (defScope s__law_other) := ⟨rfl, rfl, rfl, by decide +kernel, rfl, by decide +kernel, by decide +kernel⟩
abbrev s_law : Stmt := topS 74
abbrev n_law : List Str := ["script", "row", "house", "life", "many", "coins", "drawer", "plain", "other", "seen_v", "one", "times", "ask", "story", "last", "full", "moment", "deed", "waits", "page", "k"]
theorem sc_law : FnScope n_law ["script"] (defScope s_law) := ⟨rfl, rfl, rfl, by decide +kernel, rfl, by decide +kernel, by decide +kernel⟩
end K04

set_option maxHeartbeats 4000000
namespace K04
open PySem PySem.Spec PyProof.Rows L2 Hd
abbrev FnP (K : PySem.W.Frag) (x : Str) (st : Stmt) (f : Addr) (fd : FuncData) : Prop := FunD K x x (defArgs st) (defBody st) (defScope st) [] [] f fd
/-- the built-in names that the module leaves free -/
structure Blt (mg : Str → Option Value) : Prop where
  isinstance : mg "isinstance" = none
  int : mg "int" = none
  bool : mg "bool" = none
  str : mg "str" = none
  tuple : mg "tuple" = none
  list : mg "list" = none
  len : mg "len" = none
  range : mg "range" = none
  enumerate : mg "enumerate" = none
  min : mg "min" = none
  sum : mg "sum" = none
  comb : mg "comb" = some (.builtin "math.comb")
  least : ∃ tk, mg "LEAST_CELLS" = some (.int 2 tk)
  most : ∃ tk, mg "MOST_CELLS" = some (.int 12 tk)
/-! ### values -/
/-- an integer from lo to hi -/
def isNum : V → Int → Int → Bool
  | .int i, lo, hi => decide (lo ≤ i) && decide (i ≤ hi)
  | _, _, _ => false
/-- None, a bool, an int, a text, a list, a tuple: the kind's name -/
inductive KindV (K : PySem.W.Frag) (H : Hp) : V → String → Prop
  | non : KindV K H .non "NoneType"
  | bl (b : Bool) : KindV K H (.bl b) "bool"
  | int (i : Int) : KindV K H (.int i) "int"
  | str (x : Str) : KindV K H (.str x) "str"
  | lst {a : Addr} {xs : List V} (h : H a = some (.lst xs)) : KindV K H (.ref a) "list"
  | tup {a : Addr} {xs : List V} (h : H a = some (.tup xs)) : KindV K H (.ref a) "tuple"
theorem KindV.ty {K : PySem.W.Frag} {H : Hp} {v : V} {s : String} (k : KindV K H v s) : TyX K H v (.type s) := by
  cases k with
  | non => exact .base .non
  | bl b => exact .base (.bl b)
  | int i => exact .base (.int i)
  | str x => exact .base (.str x)
  | lst h => exact .base (.lst h)
  | tup h => exact .base (.tup h)
/-- whether a kind is another -/
def isK (s T : String) : Bool := s == T || (s == "bool" && T == "int")
theorem KindV.is {K : PySem.W.Frag} {H : Hp} {v : V} {s : String} (k : KindV K H v s) (T : String) (hT : T = "int" ∨ T = "bool" ∨ T = "tuple" ∨ T = "list" ∨ T = "str") : kitB s T = some (isK s T) := by
  rcases hT with rfl | rfl | rfl | rfl | rfl <;> cases k <;> decide +kernel
theorem KindV.isI {K : PySem.W.Frag} {H : Hp} {v : V} {s : String} (k : KindV K H v s) : kitB s "int" = some (isK s "int") := k.is "int" (by simp)
theorem KindV.isB {K : PySem.W.Frag} {H : Hp} {v : V} {s : String} (k : KindV K H v s) : kitB s "bool" = some (isK s "bool") := k.is "bool" (by simp)
theorem KindV.isT {K : PySem.W.Frag} {H : Hp} {v : V} {s : String} (k : KindV K H v s) : kitB s "tuple" = some (isK s "tuple") := k.is "tuple" (by simp)
theorem KindV.isL {K : PySem.W.Frag} {H : Hp} {v : V} {s : String} (k : KindV K H v s) : kitB s "list" = some (isK s "list") := k.is "list" (by simp)
theorem KindV.isS {K : PySem.W.Frag} {H : Hp} {v : V} {s : String} (k : KindV K H v s) : kitB s "str" = some (isK s "str") := k.is "str" (by simp)
section
variable {CX : CXT} {P : Program} {w : World} {K : PySem.W.Frag} {mg : Str → Option Value} {base : Heap}
/-! ### is_number -/
def spNumber (K : PySem.W.Frag) : Sp := fun vs H Q _ => ∃ v s lo hi, vs = [v, .int lo, .int hi] ∧ KindV K H v s ∧ Q (.bl (isNum v lo hi)) H
theorem ok_number {f : Addr} {fd : FuncData} (F : FnP K "is_number" s_is_number f fd) (B : Blt mg) : FnOk P w K mg base CX 1 f fd ["value", "least", "most"] (spNumber K) := by
  refine F.ok (CX := CX) sc_is_number (fun vs H Q E h => ?_) (fun cdv A outer s H vs Q E hr h => ?_)
  · obtain ⟨v, k, lo, hi, rfl, _⟩ := h
    rfl
  · obtain ⟨v, k, lo, hi, rfl, hk, q⟩ := h
    refine ⟨_, (pss_one (ps_ret (pe_and (pe_callB call_isS (by rfl) B.isinstance (by decide +kernel) (pa_cons (pv 0) (pa_cons (pe_ty "int" (by rfl) B.int (by decide +kernel)) pa_nil)))
      (pe_and (pe_not (pe_callB call_isS (by rfl) B.isinstance (by decide +kernel) (pa_cons (pv 0) (pa_cons (pe_ty "bool" (by rfl) B.bool (by decide +kernel)) pa_nil)))) (pe_one (pe_chain op_le op_le (pv 1) (pv 0) (pv 2))))))), ?_⟩
    refine ⟨_, rfl, _, _, "int", _, rfl, hk.ty, hk.isI, _, rfl, ?_⟩
    cases hk with
    | non => exact iteF q
    | str x => exact iteF q
    | lst h => exact iteF q
    | tup h => exact iteF q
    | bl b => exact iteT ⟨_, rfl, _, _, "bool", _, rfl, (KindV.bl b).ty, (KindV.bl (K := K) (H := H) b).isB, _, rfl, _, rfl, iteF q⟩
    | int i =>
      refine iteT ⟨_, rfl, _, _, "bool", _, rfl, (KindV.int i).ty, (KindV.int (K := K) (H := H) i).isB, _, rfl, _, rfl, iteT ⟨_, rfl, _, rfl, _, _, rfl, rfl, _, rfl, ?_⟩⟩
      have e : isNum (.int i) lo hi = (decide (lo ≤ i) && decide (i ≤ hi)) := rfl
      rw [e] at q
      refine ite2 (fun h => ⟨_, rfl, _, _, rfl, rfl, ?_⟩) (fun h => ?_)
      · rw [h] at q
        exact q
      · rw [Bool.not_eq_true] at h
        rw [h] at q
        exact q
end
end K04

set_option maxHeartbeats 4000000
namespace K04
open PySem PySem.Spec PyProof.Rows L2 Hd
/-! ### what is wrong with a house -/
def vInt : V → Int
  | .int i => i
  | _ => 0
def optV : Option Str → V
  | none => .non
  | some x => .str x
def wrongOf (c s d p n : V) : Option Str :=
  if isNum c 2 12 = false then some "cells" else if isNum s 1 (vInt c) = false then some "sealed" else if isNum d 1 4 = false then some "drawers" else if isNum p 1 6 = false then some "pages" else if isNum n 1 3 = false then some "copies" else none
def wrong5 : List V → Option Str
  | [c, s, d, p, n] => wrongOf c s d p n
  | _ => some "form"
inductive Wr (K : PySem.W.Frag) (H : Hp) : V → Option Str → Prop
  | out {v : V} {s : String} (k : KindV K H v s) (h : isK s "tuple" = false) : Wr K H v (some "form")
  | tup {a : Addr} {xs : List V} (h : H a = some (.tup xs)) (all : ∀ x ∈ xs, ∃ s, KindV K H x s) : Wr K H (.ref a) (wrong5 xs)
theorem isNum_int {v : V} {lo hi : Int} (h : isNum v lo hi = true) : v = .int (vInt v) := by
  cases v <;> first | rfl | cases h
section
variable {CX : CXT} {P : Program} {w : World} {K : PySem.W.Frag} {mg : Str → Option Value} {base : Heap}
def spWrong (K : PySem.W.Frag) : Sp := fun vs H Q _ => ∃ v o, vs = [v] ∧ Wr K H v o ∧ Q (optV o) H
structure TNum (P : Program) (w : World) (K : PySem.W.Frag) (mg : Str → Option Value) (base : Heap) (f : Addr) (fd : FuncData) : Prop where
  G : FnOk P w K mg base CX0 1 f fd ["value", "least", "most"] (spNumber K)
  m : mg "is_number" = some (.ref f)
  k : PySem.W.keepIn K (.ref f) = true
  b : Binds K fd ["value", "least", "most"] []
theorem ok_wrong {f fN : Addr} {fd fdN : FuncData} (F : FnP K "wrong_word" s_wrong_word f fd) (B : Blt mg) (T : TNum P w K mg base fN fdN) : FnOk P w K mg base CX 2 f fd ["value"] (spWrong K) := by
  refine F.ok (CX := CX) sc_wrong_word (fun vs H Q E h => ?_) (fun cdv A outer s H vs Q E hr h => ?_)
  · obtain ⟨v, o, rfl, _⟩ := h
    rfl
  · obtain ⟨v, o, rfl, hw, q⟩ := h
    obtain ⟨tk2, hl2⟩ := B.least
    obtain ⟨tk12, hl12⟩ := B.most
    refine ⟨_, (pss_cons (ps_if (PW.pt (pw_or (pt_not (pt_val (pe_callB call_isS (by rfl) B.isinstance (by decide +kernel) (pa_cons (pv 0) (pa_cons (pe_ty "tuple" (by rfl) B.tuple (by decide +kernel)) pa_nil))))) (pw_or1 (pt_cmpR op_ne (pe_callB call_len_seq (by rfl) B.len (by decide +kernel) (pa_cons (pv 0) pa_nil)) pe_int (nomark _))))) (pss_one (ps_ret pe_str)) pss_nil)
    (pss_cons (ps_asg (pv 0) (pg_tup rfl (pgs_cons (pg_name (i := 1) sc_wrong_word.nd rfl (Or.inl rfl)) (pgs_cons (pg_name (i := 2) sc_wrong_word.nd rfl (Or.inl rfl)) (pgs_cons (pg_name (i := 3) sc_wrong_word.nd rfl (Or.inl rfl)) (pgs_cons (pg_name (i := 4) sc_wrong_word.nd rfl (Or.inl rfl)) (pgs_cons (pg_name (i := 5) sc_wrong_word.nd rfl (Or.inl rfl)) pgs_nil)))))))
    (pss_cons (ps_if (pt_not (pt_val (pe_call T.G hr (by rfl) T.m T.k T.b .nil pass0 (pa_cons (pv 1) (pa_cons (pe_glob (v := .int 2) rfl hl2 ⟨tk2, rfl⟩) (pa_cons (pe_glob (v := .int 12) rfl hl12 ⟨tk12, rfl⟩) pa_nil)))))) (pss_one (ps_ret pe_str)) pss_nil)
    (pss_cons (ps_if (pt_not (pt_val (pe_call T.G hr (by rfl) T.m T.k T.b .nil pass0 (pa_cons (pv 2) (pa_cons pe_int (pa_cons (pv 1) pa_nil)))))) (pss_one (ps_ret pe_str)) pss_nil)
    (pss_cons (ps_if (pt_not (pt_val (pe_call T.G hr (by rfl) T.m T.k T.b .nil pass0 (pa_cons (pv 3) (pa_cons pe_int (pa_cons pe_int pa_nil)))))) (pss_one (ps_ret pe_str)) pss_nil)
    (pss_cons (ps_if (pt_not (pt_val (pe_call T.G hr (by rfl) T.m T.k T.b .nil pass0 (pa_cons (pv 4) (pa_cons pe_int (pa_cons pe_int pa_nil)))))) (pss_one (ps_ret pe_str)) pss_nil)
    (pss_cons (ps_if (pt_not (pt_val (pe_call T.G hr (by rfl) T.m T.k T.b .nil pass0 (pa_cons (pv 5) (pa_cons pe_int (pa_cons pe_int pa_nil)))))) (pss_one (ps_ret pe_str)) pss_nil)
    (pss_one (ps_ret pe_non))))))))), ?_⟩
    cases hw with
    | @out v sk k hk =>
      refine ⟨_, rfl, _, _, "tuple", _, rfl, k.ty, k.isT, _, rfl, ?_⟩
      rw [hk]
      exact iteT (iteT q)
    | @tup a xs ha all =>
      refine ⟨_, rfl, _, _, "tuple", _, rfl, (KindV.tup ha).ty, (KindV.tup (K := K) ha).isT, _, rfl, iteF ?_⟩
      refine ⟨_, rfl, a, xs, rfl, .inr (SqT.of ha), rfl, _, rfl, ?_⟩
      by_cases h5 : xs.length = 5
      · match xs, h5 with
        | [x1, x2, x3, x4, x5], _ =>
          refine iteF ⟨_, rfl, a, _, rfl, SqT.of ha, rfl, _, _, rfl, _, _, rfl, _, _, rfl, _, _, rfl, _, _, rfl, rfl, ?_⟩
          obtain ⟨k1, g1⟩ := all x1 (by simp)
          obtain ⟨k2, g2⟩ := all x2 (by simp)
          obtain ⟨k3, g3⟩ := all x3 (by simp)
          obtain ⟨k4, g4⟩ := all x4 (by simp)
          obtain ⟨k5, g5⟩ := all x5 (by simp)
          change Q (optV (wrongOf x1 x2 x3 x4 x5)) H at q
          unfold wrongOf at q
          refine ⟨x1, rfl, x1, k1, 2, 12, rfl, g1, _, rfl, ?_⟩
          cases e1 : isNum x1 2 12 with
          | false =>
            rw [if_pos e1] at q
            exact iteT q
          | true =>
            rw [if_neg (by rw [e1]; decide)] at q
            refine iteF ⟨x2, rfl, x1, rfl, x2, k2, 1, vInt x1, by rw [← isNum_int e1] <;> rfl, g2, _, rfl, ?_⟩
            cases e2 : isNum x2 1 (vInt x1) with
            | false =>
              rw [if_pos e2] at q
              exact iteT q
            | true =>
              rw [if_neg (by rw [e2]; decide)] at q
              refine iteF ⟨x3, rfl, x3, k3, 1, 4, rfl, g3, _, rfl, ?_⟩
              cases e3 : isNum x3 1 4 with
              | false =>
                rw [if_pos e3] at q
                exact iteT q
              | true =>
                rw [if_neg (by rw [e3]; decide)] at q
                refine iteF ⟨x4, rfl, x4, k4, 1, 6, rfl, g4, _, rfl, ?_⟩
                cases e4 : isNum x4 1 6 with
                | false =>
                  rw [if_pos e4] at q
                  exact iteT q
                | true =>
                  rw [if_neg (by rw [e4]; decide)] at q
                  refine iteF ⟨x5, rfl, x5, k5, 1, 3, rfl, g5, _, rfl, ?_⟩
                  cases e5 : isNum x5 1 3 with
                  | false =>
                    rw [if_pos e5] at q
                    exact iteT q
                  | true =>
                    rw [if_neg (by rw [e5]; decide)] at q
                    exact iteF q
      · have e : (!decide (V.int (xs.length : Int) = V.int 5)) = true := by
          rw [decide_eq_false (fun z => h5 (by injection z with z; omega))] <;> rfl
        rw [e]
        have e2 : wrong5 xs = some "form" := by
          match xs, h5 with
          | [], _ => rfl
          | [_], _ => rfl
          | [_, _], _ => rfl
          | [_, _, _], _ => rfl
          | [_, _, _, _], _ => rfl
          | [_, _, _, _, _], h => exact absurd rfl h
          | _ :: _ :: _ :: _ :: _ :: _ :: _, _ => rfl
        rw [e2] at q
        exact iteT q
end
end K04

set_option maxHeartbeats 4000000
namespace K04
open PySem PySem.Spec PyProof.Rows L2 Hd Evl
/-! ### houses -/
structure HouseAt (H : Hp) (a : Addr) (n k d p c : Nat) : Prop where
  at_ : H a = some (.tup [.int n, .int k, .int d, .int p, .int c])
  n2 : 2 ≤ n
  n12 : n ≤ 12
  k1 : 1 ≤ k
  kn : k ≤ n
  d1 : 1 ≤ d
  d4 : d ≤ 4
  p1 : 1 ≤ p
  p6 : p ≤ 6
  c1 : 1 ≤ c
  c3 : c ≤ 3
theorem HouseAt.ex {H H' : Hp} {a : Addr} {n k d p c : Nat} (h : HouseAt H a n k d p c) (e : Ex H H') : HouseAt H' a n k d p c := { h with at_ := e _ _ h.at_ }
theorem num_of {v : V} {lo hi : Int} (h : isNum v lo hi = true) (h0 : 0 ≤ lo) : ∃ i : Nat, v = .int i ∧ lo ≤ i ∧ (i : Int) ≤ hi := by
  cases v with
  | int i =>
    have h1 : (decide (lo ≤ i) && decide (i ≤ hi)) = true := h
    rw [Bool.and_eq_true] at h1
    have a := of_decide_eq_true h1.1
    have b := of_decide_eq_true h1.2
    exact ⟨i.toNat, by rw [Int.toNat_of_nonneg (by omega)], by omega, by omega⟩
  | _ => cases h
theorem isNum_nat {i : Nat} {lo hi : Int} : isNum (.int (i : Int)) lo hi = (decide (lo ≤ (i : Int)) && decide ((i : Int) ≤ hi)) := rfl
theorem wrongOf_none {c s d p n : V} (h : wrongOf c s d p n = none) : isNum c 2 12 = true ∧ isNum s 1 (vInt c) = true ∧ isNum d 1 4 = true ∧ isNum p 1 6 = true ∧ isNum n 1 3 = true := by
  unfold wrongOf at h
  cases e1 : isNum c 2 12 <;> rw [e1] at h <;> first | cases h | skip
  cases e2 : isNum s 1 (vInt c) <;> rw [e2] at h <;> first | cases h | skip
  cases e3 : isNum d 1 4 <;> rw [e3] at h <;> first | cases h | skip
  cases e4 : isNum p 1 6 <;> rw [e4] at h <;> first | cases h | skip
  cases e5 : isNum n 1 3 <;> rw [e5] at h <;> first | cases h | skip
  exact ⟨rfl, rfl, rfl, rfl, rfl⟩
theorem Wr.house {K : PySem.W.Frag} {H : Hp} {v : V} (h : Wr K H v none) : ∃ a n k d p c, v = .ref a ∧ HouseAt H a n k d p c := by
  generalize e : (none : Option Str) = o at h
  cases h with
  | out k h => cases e
  | @tup a xs ha all =>
    match xs with
    | [x1, x2, x3, x4, x5] =>
      have e' : none = wrongOf x1 x2 x3 x4 x5 := e
      obtain ⟨h1, h2, h3, h4, h5⟩ := wrongOf_none e'.symm
      obtain ⟨n, rfl, a1, b1⟩ := num_of h1 (by decide)
      obtain ⟨k, rfl, a2, b2⟩ := num_of h2 (by decide)
      obtain ⟨d, rfl, a3, b3⟩ := num_of h3 (by decide)
      obtain ⟨p, rfl, a4, b4⟩ := num_of h4 (by decide)
      obtain ⟨c, rfl, a5, b5⟩ := num_of h5 (by decide)
      have b2' : (k : Int) ≤ (n : Int) := b2
      exact ⟨a, n, k, d, p, c, rfl, ⟨ha, by omega, by omega, by omega, by omega, by omega, by omega, by omega, by omega, by omega, by omega⟩⟩
    | [] => cases e
    | [_] => cases e
    | [_, _] => cases e
    | [_, _, _] => cases e
    | [_, _, _, _] => cases e
    | _ :: _ :: _ :: _ :: _ :: _ :: _ => cases e
theorem HouseAt.wr {K : PySem.W.Frag} {H : Hp} {a : Addr} {n k d p c : Nat} (h : HouseAt H a n k d p c) : Wr K H (.ref a) none := by
  have e : wrong5 [.int n, .int k, .int d, .int p, .int c] = none := by
    show wrongOf (.int n) (.int k) (.int d) (.int p) (.int c) = none
    unfold wrongOf
    have t : ∀ {i : Nat} {lo hi : Int}, lo ≤ i → (i : Int) ≤ hi → isNum (.int (i : Int)) lo hi = true := fun h1 h2 => by
      rw [isNum_nat, decide_eq_true h1, decide_eq_true h2] <;> rfl
    have := h.n2; have := h.n12; have := h.k1; have := h.kn; have := h.d1; have := h.d4; have := h.p1; have := h.p6; have := h.c1; have := h.c3
    rw [t (i := n) (lo := 2) (hi := 12) (by omega) (by omega), t (i := k) (lo := 1) (hi := vInt (.int n)) (by omega) (by show (k : Int) ≤ (n : Int); omega), t (i := d) (lo := 1) (hi := 4) (by omega) (by omega), t (i := p) (lo := 1) (hi := 6) (by omega) (by omega), t (i := c) (lo := 1) (hi := 3) (by omega) (by omega)] <;> rfl
  rw [← e]
  refine .tup h.at_ fun x hx => ?_
  simp only [List.mem_cons, List.mem_nil_iff, or_false] at hx
  rcases hx with rfl | rfl | rfl | rfl | rfl <;> exact ⟨_, .int _⟩
/-- BadHouse(x) leaves a def -/
def Refuses (CB : Addr) (E : XK) (H : Hp) (x : Str) : Prop := ∀ d H', Ex H H' → H d = none → H' d = some (.xd [("word", .str x)]) → E (.ref CB) (some d) H'
section
variable {CX : CXT} {P : Program} {w : World} {K : PySem.W.Frag} {mg : Str → Option Value} {base : Heap} {CB CN : Addr}
/-! ### BadHouse.__init__ -/
theorem ok_BadHouse_init {f : Addr} {fd : FuncData} (F : FunD K "__init__" "BadHouse.__init__" (defArgs s_BadHouse___init__) (defBody s_BadHouse___init__) (defScope s_BadHouse___init__) [] [] f fd) (T : OexC K CB) (no : PySem.W.findIn K (.ref CB) "word" = some none) :
    FnOk P w K mg base CX 1 f fd ["self", "word"] (spInit CB "word") := by
  refine F.ok (CX := CX) sc_BadHouse___init__ (fun vs H Q E h => ?_) (fun cdv A outer s H vs Q E hr h => ?_)
  · obtain ⟨a, x, rfl, _⟩ := h
    rfl
  · obtain ⟨a, x, rfl, ha, q⟩ := h
    exact ⟨_, pss_one (ps_ost (pv 0) (pv 1)), x, rfl, .ref a, rfl, a, CB, rfl, T, no, .inl ⟨ha, fun dx n1 n2 => q dx n1 n2⟩⟩
/-! ### is_house, check_house -/
def spIsHouse (K : PySem.W.Frag) : Sp := fun vs H Q _ => ∃ v o, vs = [v] ∧ Wr K H v o ∧ Q (.bl (o == none)) H
def spCheck (K : PySem.W.Frag) (CB : Addr) : Sp := fun vs H Q E => ∃ v o, vs = [v] ∧ Wr K H v o ∧ (o = none → Q .non H) ∧ ∀ x, o = some x → Refuses CB E H x
theorem ok_check {f fW : Addr} {fd fdW : FuncData} (F : FnP K "check_house" s_check_house f fd) (T : Fn P w K mg base CX0 2 "wrong_word" ["value"] (spWrong K) fW fdW) (B : ErrF P w K mg base "BadHouse" "word" CB) :
    FnOk P w K mg base (L2.CX P w) 3 f fd ["house"] (spCheck K CB) := by
  refine F.ok (CX := L2.CX P w) sc_check_house (fun vs H Q E h => ?_) (fun cdv A outer s H vs Q E hr h => ?_)
  · obtain ⟨v, o, rfl, _⟩ := h
    rfl
  · obtain ⟨v, o, rfl, hw, q0, q1⟩ := h
    refine ⟨_, pss_cons (ps_set (i := 1) sc_check_house.nd rfl (Or.inl rfl) (pe_call T.G hr (by rfl) T.m T.k T.b .nil pass0 (pa_cons (pv 0) pa_nil)))
      (pss_one (ps_if (pt_cmpR op_notN (pv 1) pe_non (nomark _)) (pss_one (ps_raiseF B rfl hr (takes_of rfl rfl rfl rfl) (by rfl) (pa_cons (pv 1) pa_nil))) pss_nil)), ?_⟩
    refine ⟨v, rfl, v, o, rfl, hw, optV o, rfl, rfl, _, rfl, ?_⟩
    cases o with
    | none => exact iteF (q0 rfl)
    | some x => exact iteT ⟨_, rfl, .str x, rfl, fun d H2 e n a => q1 x rfl d H2 e n a⟩
/-! ### coin_count, is_coin -/
theorem comb_le {n k : Nat} (h : n ≤ 12) (h2 : k ≤ n) : PySem.W.mcComb (n : Int) (k : Int) = (nck n k : Nat) := comb_bin h (by omega)
def spCount (K : PySem.W.Frag) (CB : Addr) : Sp := fun vs H Q E => ∃ v o, vs = [v] ∧ Wr K H v o ∧ (∀ a n k d p c, v = .ref a → HouseAt H a n k d p c → Q (.int (nck n k : Nat)) H) ∧ ∀ x, o = some x → Refuses CB E H x
def spIsCoin (K : PySem.W.Frag) : Sp := fun vs H Q _ => ∃ a n k d p c v s, vs = [.ref a, v] ∧ HouseAt H a n k d p c ∧ KindV K H v s ∧ Q (.bl (isNum v 0 ((nck n k : Nat) - 1))) H
theorem ok_is_coin {f fN : Addr} {fd fdN : FuncData} (F : FnP K "is_coin" s_is_coin f fd) (T : Fn P w K mg base CX0 1 "is_number" ["value", "least", "most"] (spNumber K) fN fdN) (B : Blt mg) : FnOk P w K mg base CX 2 f fd ["house", "value"] (spIsCoin K) := by
  refine F.ok (CX := CX) sc_is_coin (fun vs H Q E h => ?_) (fun cdv A outer s H vs Q E hr h => ?_)
  · obtain ⟨a, n, k, d, p, c, v, s, rfl, _⟩ := h
    rfl
  · obtain ⟨a, n, k, d, p, c, v, sk, rfl, h, hk, q⟩ := h
    refine ⟨_, (pss_one (ps_ret (pe_call T.G hr (by rfl) T.m T.k T.b .nil pass0 (pa_cons (pv 1) (pa_cons pe_int (pa_cons (pe_op op_sub (pe_callBfun call_comb (by rfl) B.comb (pa_cons (pe_ix ix_tup (pv 0) pe_int (fun _ _ => rfl)) (pa_cons (pe_ix ix_tup (pv 0) pe_int (fun _ _ => rfl)) pa_nil))) pe_int) pa_nil)))))), ?_⟩
    have := h.n12; have := h.kn
    refine ⟨v, rfl, .ref a, rfl, a, _, _, .int n, rfl, rfl, SqT.of h.at_, atI_nat (j := 0) rfl, .ref a, rfl, a, _, _, .int k, rfl, rfl, SqT.of h.at_, atI_nat (j := 1) rfl, (n : Int), (k : Int), rfl, by omega, by omega, by omega, _, _, rfl, rfl, v, sk, _, _, rfl, hk, ?_⟩
    rw [comb_le (by omega) (by omega)]
    exact q
end
end K04

set_option maxHeartbeats 4000000
namespace K04
open PySem PySem.Spec PyProof.Rows L2 Hd Evl
abbrev iV (c : Nat) : V := .int (c : Int)
/-- a new tuple -/
def RetT (xs : List V) (H : Hp) (Q : VK) : Prop := ∀ p H2, H p = none → Ex H H2 → H2 p = some (.tup xs) → Q (.ref p) H2
section
variable {CX : CXT} {P : Program} {w : World} {K : PySem.W.Frag} {mg : Str → Option Value} {base : Heap} {CB CN : Addr}
/-! ### drawn -/
structure DrawnP (K : PySem.W.Frag) (CB CN : Addr) (vs : List V) (H : Hp) (Q : VK) (E : XK) : Prop where
  go : ∃ v x o, vs = [v, x] ∧ Wr K H v o ∧ (∀ y, o = some y → Refuses CB E H y) ∧
  ∀ a n k d p c, v = .ref a → HouseAt H a n k d p c → (∃ s, KindV K H x s) ∧ (isNum x 0 ((nck n k : Nat) - 1) = false → E (.ref CN) none H) ∧ ∀ i : Nat, x = .int i → i < nck n k → RetT ((drawN n k i 0).map iV) H Q
def spDrawn (K : PySem.W.Frag) (CB CN : Addr) : Sp := fun vs H Q E => DrawnP K CB CN vs H Q E
theorem ok_drawn {f fC fI : Addr} {fd fdC fdI : FuncData} (F : FnP K "drawn" s_drawn f fd) (T : Fn P w K mg base (L2.CX P w) 3 "check_house" ["house"] (spCheck K CB) fC fdC) (TI : Fn P w K mg base CX0 2 "is_coin" ["house", "value"] (spIsCoin K) fI fdI) (N : ErrP K mg "BadNumber" CN) (B : Blt mg) :
    FnOk P w K mg base (L2.CX P w) 4 f fd ["house", "coin"] (spDrawn K CB CN) := by
  refine F.ok (CX := L2.CX P w) sc_drawn (fun vs H Q E h => ?_) (fun cdv A outer s H vs Q E hr h => ?_)
  · obtain ⟨v, x, o, rfl, _⟩ := h
    rfl
  · obtain ⟨v, x, o, rfl, hw, q1, q⟩ := h
    refine ⟨_, (pss_cons (ps_expr (pe_call T.G hr (by rfl) T.m T.k T.b .nil (passX (E := E) rfl rfl rfl rfl) (pa_cons (pv 0) pa_nil)))
    (pss_cons (ps_if (pt_not (pt_val (pe_call TI.G (hr.mono (by decide)) (by rfl) TI.m TI.k TI.b .nil pass0 (pa_cons (pv 0) (pa_cons (pv 1) pa_nil))))) (pss_one (ps_raiseP N rfl (takes_of (E := E) rfl rfl rfl rfl) (by rfl))) pss_nil)
    (pss_cons (ps_par (i := 2) (j := 3) (by rfl) sc_drawn.nd rfl rfl (by decide) rfl rfl (pa_cons (pe_ix ix_tup (pv 0) pe_int (fun _ _ => rfl)) (pa_cons (pe_ix ix_tup (pv 0) pe_int (fun _ _ => rfl)) pa_nil)) (by rfl))
    (pss_cons (ps_set (i := 4) sc_drawn.nd rfl (Or.inl rfl) (pe_lst pa_nil))
    (pss_cons (ps_set (i := 5) sc_drawn.nd rfl (Or.inl rfl) (pv 1))
    (pss_cons (ps_set (i := 6) sc_drawn.nd rfl (Or.inl rfl) pe_int)
    (pss_cons (ps_while (passes_of rfl) (pt_cmpR op_lt (pe_callB call_len_seq (by rfl) B.len (by decide +kernel) (pa_cons (pv 4) pa_nil)) (pv 3) (nomark _)) (pss_cons (ps_set (i := 7) sc_drawn.nd rfl (Or.inl rfl) (pe_callBfun call_comb (by rfl) B.comb (pa_cons (pe_op op_sub (pe_op op_sub (pv 2) (pv 6)) pe_int) (pa_cons (pe_op op_sub (pe_op op_sub (pv 3) (pe_callB call_len_seq (by rfl) B.len (by decide +kernel) (pa_cons (pv 4) pa_nil))) pe_int) pa_nil))))
    (pss_cons (ps_if (pt_cmpR op_lt (pv 5) (pv 7) (nomark _)) (pss_one (ps_expr (pe_bm PySem.F.plainAttrs_list PySem.F.slot_list_append PySem.F.type_list_append mt_append (pv 4) (pa_cons (pv 6) pa_nil)))) (pss_one (ps_aug (i := 5) sc_drawn.nd rfl (Or.inl rfl) (pv 7) ip_sub)))
    (pss_one (ps_aug (i := 6) sc_drawn.nd rfl (Or.inl rfl) pe_int ip_add)))))
    (pss_one (ps_ret (pe_callTy call_tuple_of (by rfl) B.tuple (by decide +kernel) (pa_cons (pv 4) pa_nil))))))))))), ?_⟩
    refine ⟨v, rfl, v, o, rfl, hw, fun e => ?_, q1⟩
    subst e
    obtain ⟨a, n, k, d, p, c, rfl, h⟩ := hw.house
    obtain ⟨⟨sk, hk⟩, q2, q3⟩ := q a n k d p c rfl h
    have n12 := h.n12; have kn := h.kn
    refine ⟨.ref a, rfl, x, rfl, a, n, k, d, p, c, x, sk, rfl, h, hk, _, rfl, ?_⟩
    cases eb : isNum x 0 ((nck n k : Nat) - 1) with
    | false => exact iteT (q2 eb)
    | true =>
      obtain ⟨i, rfl, _, hi⟩ := num_of eb (by decide)
      have hi' : i < nck n k := by have := nck_pos kn; omega
      refine iteF ⟨.ref a, rfl, a, _, _, .int n, rfl, rfl, SqT.of h.at_, atI_nat (j := 0) rfl, .ref a, rfl, a, _, _, .int k, rfl, rfl, SqT.of h.at_, atI_nat (j := 1) rfl, _, _, rfl, ?_⟩
      refine ⟨Nat.zero_le _, fun l nl => ⟨_, rfl, ?_⟩⟩
      refine ⟨fun m σ G => ∃ (ch : List Nat) (ah cell : Nat) (mv : Option V), σ = [some (.ref a), some (.int i), some (iV n), some (iV k), some (.ref l), some (iV ah), some (iV cell), mv] ∧ Ex H G ∧ G l = some (.lst (ch.map iV)) ∧ m + cell = n ∧ ch.length ≤ k ∧
        ah < nck (n - cell) (k - ch.length) ∧ ch ++ drawN (n - cell) (k - ch.length) ah cell = drawN n k i 0, ⟨n, [], i, 0, none, rfl, Ex.new nl, upd_same, rfl, Nat.zero_le _, hi', rfl⟩, ?_⟩
      rintro m σ G ⟨ch, ah, cell, mv, rfl, ex, el, em, lk, lah, eq⟩
      have hL : SqL K G l (ch.map iV) := SqL.of el
      refine ⟨.ref l, rfl, l, _, rfl, .inl hL, .int k, rfl, _, _, rfl, rfl, _, rfl, ite2 (fun e => ?_) (fun e => ?_)⟩
      · have e1 : ch.length < k := by
          have := of_decide_eq_true e
          rw [List.length_map] at this
          omega
        have cn : cell < n := by
          rcases Nat.lt_or_ge cell n with z | z
          · exact z
          · rw [show n - cell = 0 by omega, show k - ch.length = (k - ch.length - 1) + 1 by omega] at lah
            exact absurd lah (by simp [nck])
        obtain ⟨mm, e2⟩ : ∃ mm, n - cell = mm + 1 := ⟨n - cell - 1, by omega⟩
        obtain ⟨kk, e3⟩ : ∃ kk, k - ch.length = kk + 1 := ⟨k - ch.length - 1, by omega⟩
        rw [e2, e3] at lah eq
        have lah' : ah < nck mm kk + nck mm (kk + 1) := lah
        have eq' : ch ++ (if ah < nck mm kk then cell :: drawN mm kk ah (cell + 1) else drawN mm (kk + 1) (ah - nck mm kk) (cell + 1)) = drawN n k i 0 := eq
        refine ⟨fun σ' G' => ∃ (ch' : List Nat) (ah' : Nat) (mv' : Option V), σ' = [some (.ref a), some (.int i), some (iV n), some (iV k), some (.ref l), some (iV ah'), some (iV (cell + 1)), mv'] ∧ Ex H G' ∧ G' l = some (.lst (ch'.map iV)) ∧ ch'.length ≤ k ∧
          ah' < nck (n - (cell + 1)) (k - ch'.length) ∧ ch' ++ drawN (n - (cell + 1)) (k - ch'.length) ah' (cell + 1) = drawN n k i 0, ?_, ?_⟩
        · rintro σ' G' ⟨ch', ah', mv', r1, r2, r3, r4, r5, r6⟩
          exact ⟨m - 1, by omega, ch', ah', cell + 1, mv', r1, r2, r3, by omega, r4, r5, r6⟩
        refine ⟨.int n, rfl, iV cell, rfl, _, _, rfl, rfl, _, _, rfl, rfl, .int k, rfl, .ref l, rfl, l, _, rfl, .inl hL, _, _, rfl, rfl, _, _, rfl, rfl, (mm : Int), (kk : Int), ?_, by omega, by omega, by omega, ?_⟩
        · show [V.int ((n : Int) - (cell : Int) - 1), V.int ((k : Int) - ((ch.map iV).length : Int) - 1)] = _
          rw [List.length_map, show (n : Int) - (cell : Int) - 1 = (mm : Int) by omega, show (k : Int) - (ch.length : Int) - 1 = (kk : Int) by omega]
        rw [comb_bin (show mm ≤ 12 by omega) (show kk ≤ 12 by omega)]
        refine ⟨iV ah, rfl, iV (nck mm kk), rfl, _, _, rfl, rfl, _, rfl, ite2 (fun e4 => ?_) (fun e4 => ?_)⟩
        · have e5 : ah < nck mm kk := by have := of_decide_eq_true e4; omega
          rw [if_pos e5] at eq'
          refine ⟨.ref l, rfl, .inl ⟨rfl, _, hL⟩, iV cell, rfl, l, _, _, rfl, rfl, el, ?_, ?_⟩
          · rw [List.length_map]
            exact small1000 (by omega)
          · refine ⟨iV cell, rfl, _, _, rfl, rfl, ch ++ [cell], ah, _, rfl, ex.mut nl, ?_, ?_, ?_, ?_⟩
            · rw [upd_same, List.map_append] <;> rfl
            · rw [List.length_append, List.length_singleton]
              omega
            · rw [List.length_append, List.length_singleton, show n - (cell + 1) = mm by omega, show k - (ch.length + 1) = kk by omega]
              exact e5
            · rw [List.length_append, List.length_singleton, show n - (cell + 1) = mm by omega, show k - (ch.length + 1) = kk by omega, List.append_assoc]
              exact eq'
        · have e5 : ¬ ah < nck mm kk := fun z => e4 (decide_eq_true (by omega))
          rw [if_neg e5] at eq'
          refine ⟨iV ah, rfl, iV (nck mm kk), rfl, _, _, rfl, rfl, iV cell, rfl, _, _, rfl, rfl, ch, ah - nck mm kk, some (iV (nck mm kk)), ?_, ex, el, lk, ?_, ?_⟩
          · have : ((ah - nck mm kk : Nat) : Int) = (ah : Int) - (nck mm kk : Int) := by omega
            show _ = [some (V.ref a), some (.int i), some (iV n), some (iV k), some (.ref l), some (V.int ((ah - nck mm kk : Nat) : Int)), some (V.int ((cell + 1 : Nat) : Int)), some (iV (nck mm kk))]
            rw [this] <;> rfl
          · rw [show n - (cell + 1) = mm by omega, e3]
            omega
          · rw [show n - (cell + 1) = mm by omega, e3]
            exact eq'
      · have e1 : ch.length = k := by
          have : ¬ ch.length < k := fun z => e (decide_eq_true (by rw [List.length_map]; omega))
          omega
        rw [e1, Nat.sub_self] at eq
        have e2 : ch = drawN n k i 0 := by
          rw [← eq]
          cases n - cell <;> simp [drawN]
        refine ⟨.ref l, rfl, l, _, rfl, .inl ⟨hL, fun t nt => ?_⟩⟩
        rw [e2]
        exact q3 i rfl hi' t _ (fresh_back ex nt) (ex.trans (Ex.new nt)) upd_same
end
end K04

set_option maxHeartbeats 4000000
namespace K04
open PySem PySem.Spec PyProof.Rows L2 Hd Evl
/-! ### the law's reader of the script -/
/-- at a the ints of the script, whatever is written at r -/
def Src (K : PySem.W.Frag) (r a : Addr) (ns : List Int) (H : Hp) : Prop := (∀ G, SqL K G a (ns.map V.int)) ∨ (a ≠ r ∧ Rd H a (.lst (ns.map V.int)))
section
variable {K : PySem.W.Frag} {r a : Addr} {ns : List Int} {H H' : Hp}
theorem Src.sq (h : Src K r a ns H) : SqL K H a (ns.map V.int) := h.elim (fun q => q H) fun q => .inl q.2
theorem Src.ex (h : Src K r a ns H) (e : Ex H H') : Src K r a ns H' := h.elim .inl fun q => .inr ⟨q.1, ex_rd e q.2⟩
theorem Src.row {o : HO} (h : Src K r a ns H) : Src K r a ns (upd H r o) := h.elim .inl fun q => .inr ⟨q.1, by
  rcases q.2 with z | ⟨u, z⟩
  · exact .inl (by rw [upd_ne q.1]; exact z)
  · exact .inr ⟨u, by rw [upd_ne q.1]; exact z⟩⟩
/-- a new address -/
theorem Src.new (h : SqL K H a (ns.map V.int)) (n : H r = none) : Src K r a ns H := by
  rcases h with h | h
  · refine .inr ⟨fun e => ?_, h⟩
    rw [e] at h
    rcases h with z | ⟨u, z⟩ <;> rw [n] at z <;> cases z
  · exact .inl fun G => .inr h
end
abbrev rowV (a : Addr) (i sd rs : Int) : List V := [.ref a, .int i, .int sd, .int rs]
section
variable {CX : CXT} {P : Program} {w : World} {K : PySem.W.Frag} {mg : Str → Option Value} {base : Heap}
structure TakenP (K : PySem.W.Frag) (vs : List V) (H : Hp) (Q : VK) (E : XK) : Prop where
  go : ∃ (r a : Addr) (ns : List Int) (i sd rs : Int) (many : Nat), vs = [.ref r, .int many] ∧ H r = some (.lst (rowV a i sd rs)) ∧ Src K r a ns H ∧ 0 ≤ i ∧ 0 ≤ sd ∧ sd < 2147483647 ∧ 1 ≤ many ∧ many < 2 ^ 60 ∧
  ∀ (i' sd' rs' : Int) (x : Nat), 0 ≤ i' → 0 ≤ sd' → sd' < 2147483647 → x < many → Q (iV x) (upd H r (.lst (rowV a i' sd' rs')))
def spTaken (K : PySem.W.Frag) : Sp := fun vs H Q E => TakenP K vs H Q E
theorem modN {i : Int} {m : Nat} (h : 1 ≤ m) : ∃ x : Nat, i % (m : Int) = (x : Int) ∧ x < m := by
  have h1 : 0 ≤ i % (m : Int) := Int.emod_nonneg i (by omega)
  have h2 : i % (m : Int) < (m : Int) := Int.emod_lt_of_pos i (by omega)
  exact ⟨(i % (m : Int)).toNat, by omega, by omega⟩
theorem modM (i : Int) : 0 ≤ i % 2147483647 ∧ i % 2147483647 < 2147483647 := ⟨Int.emod_nonneg i (by decide), Int.emod_lt_of_pos i (by decide)⟩
theorem divOk {m : Nat} (h : 1 ≤ m) (h2 : m < 2 ^ 60) (i : Int) : CDivW i (m : Int) := wide_div (b := 60) (by omega) (by simpa using h2) (by decide) (by decide)
theorem ok_taken {f : Addr} {fd : FuncData} (F : FnP K "_law_taken" s__law_taken f fd) (B : Blt mg) : FnOk P w K mg base CX 1 f fd ["row", "many"] (spTaken K) := by
  refine F.ok (CX := CX) sc__law_taken (fun vs H Q E h => ?_) (fun cdv A outer s H vs Q E hr h => ?_)
  · obtain ⟨r, a, ns, i, sd, rs, many, rfl, _⟩ := h
    rfl
  · obtain ⟨r, a, ns, i, sd, rs, many, rfl, hr0, src, i0, s0, s1, m1, m2, q⟩ := h
    refine ⟨_, (pss_cons (ps_if (pt_cmpR op_gt (pe_ix ix_list (pv 0) pe_int (fun _ _ => rfl)) pe_int (nomark _)) (pss_cons (ps_set (i := 2) sc__law_taken.nd rfl (Or.inl rfl) (pe_op op_mod (pe_callTy call_int1 (by rfl) B.int (by decide +kernel) (pa_cons (pe_ix ix_list (pv 0) pe_int (fun _ _ => rfl)) pa_nil)) (pv 1)))
    (pss_cons (ps_asg (pe_op op_fdivW (pe_ix ix_list (pv 0) pe_int (fun _ _ => rfl)) (pv 1)) (pg_sub (pv 0) pe_int set_list))
    (pss_one (ps_ret (pv 2))))) pss_nil)
    (pss_cons (ps_asg (pe_op op_add (pe_ix ix_list (pv 0) pe_int (fun _ _ => rfl)) pe_int) (pg_sub (pv 0) pe_int set_list))
    (pss_cons (ps_if (pt_cmpR op_gt (pe_ix ix_list (pv 0) pe_int (fun _ _ => rfl)) (pe_callB call_len_seq (by rfl) B.len (by decide +kernel) (pa_cons (pe_ix ix_list (pv 0) pe_int (fun _ _ => rfl)) pa_nil)) (nomark _)) (pss_cons (ps_asg (pe_op op_mod (pe_callTy call_int1 (by rfl) B.int (by decide +kernel) (pa_cons (pe_op op_add (pe_op op_mul (pe_ix ix_list (pv 0) pe_int (fun _ _ => rfl)) pe_int) pe_int) pa_nil)) pe_int) (pg_sub (pv 0) pe_int set_list))
    (pss_one (ps_ret (pe_op op_mod (pe_callTy call_int1 (by rfl) B.int (by decide +kernel) (pa_cons (pe_op op_fdivW (pe_ix ix_list (pv 0) pe_int (fun _ _ => rfl)) pe_int) pa_nil)) (pv 1))))) pss_nil)
    (pss_cons (ps_set (i := 3) sc__law_taken.nd rfl (Or.inl rfl) (pe_ix ix_list (pe_ix ix_list (pv 0) pe_int (fun _ _ => rfl)) (pe_op op_sub (pe_ix ix_list (pv 0) pe_int (fun _ _ => rfl)) pe_int) (fun _ _ => rfl)))
    (pss_cons (ps_asg (pe_op op_mod (pe_callTy call_int1 (by rfl) B.int (by decide +kernel) (pa_cons (pe_op op_add (pe_op op_add (pe_op op_mul (pe_ix ix_list (pv 0) pe_int (fun _ _ => rfl)) pe_int) (pv 3)) pe_int) pa_nil)) pe_int) (pg_sub (pv 0) pe_int set_list))
    (pss_cons (ps_if (pt_cmpR op_ge (pv 3) (pe_op op_pow pe_int pe_int) (nomark _)) (pss_one (ps_asg (pe_op op_fdivW (pv 3) (pv 1)) (pg_sub (pv 0) pe_int set_list))) pss_nil)
    (pss_one (ps_ret (pe_op op_mod (pe_callTy call_int1 (by rfl) B.int (by decide +kernel) (pa_cons (pv 3) pa_nil)) (pv 1)))))))))), ?_⟩
    have rd : ∀ {G : Hp} {xs : List V}, G r = some (.lst xs) → SqL K G r xs := fun h => SqL.of h
    refine ⟨.ref r, rfl, r, _, _, .int rs, rfl, rfl, rd hr0, atI_nat (j := 3) rfl, _, _, rfl, rfl, _, rfl, ite2 (fun _ => ?_) (fun _ => ?_)⟩
    · -- a great cell's digits
      obtain ⟨x, ex, lx⟩ := modN (i := rs) m1
      refine ⟨.ref r, rfl, r, _, _, .int rs, rfl, rfl, rd hr0, atI_nat (j := 3) rfl, .inl ⟨_, rfl, .int many, rfl, _, _, rfl, rfl, by omega, ?_⟩⟩
      dsimp only
      rw [ex]
      refine ⟨.ref r, rfl, r, _, _, .int rs, rfl, rfl, rd hr0, atI_nat (j := 3) rfl, .int many, rfl, _, _, rfl, rfl, divOk m1 m2 rs, .ref r, rfl, r, _, _, 3, rfl, rfl, hr0, rfl, iV x, rfl, ?_⟩
      exact q i sd (rs / (many : Int)) x i0 s0 s1 lx
    · refine ⟨.ref r, rfl, r, _, _, .int i, rfl, rfl, rd hr0, atI_nat (j := 1) rfl, _, _, rfl, rfl, .ref r, rfl, r, _, _, 1, rfl, rfl, hr0, rfl, ?_⟩
      have h1 : upd H r (.lst ((rowV a i sd rs).set 1 (.int (i + 1)))) r = some (.lst (rowV a (i + 1) sd rs)) := upd_same
      have src1 : Src K r a ns (upd H r (.lst ((rowV a i sd rs).set 1 (.int (i + 1))))) := src.row
      generalize hG : upd H r (.lst ((rowV a i sd rs).set 1 (.int (i + 1)))) = G at h1 src1
      have up : ∀ o, upd G r o = upd H r o := fun o => by rw [← hG, upd_upd]
      refine ⟨.ref r, rfl, r, _, _, .int (i + 1), rfl, rfl, rd h1, atI_nat (j := 1) rfl, .ref r, rfl, r, _, _, .ref a, rfl, rfl, rd h1, atI_nat (j := 0) rfl, a, _, rfl, .inl src1.sq, _, _, rfl, rfl, _, rfl, ite2 (fun e => ?_) (fun e => ?_)⟩
      · -- the script is done
        refine ⟨.ref r, rfl, r, _, _, .int sd, rfl, rfl, rd h1, atI_nat (j := 2) rfl, _, _, rfl, rfl, .inl ⟨by omega, by omega⟩, _, _, rfl, rfl, .inl ⟨_, rfl, _, _, rfl, rfl, (by show (0 : Int) < 2147483647; decide), .ref r, rfl, r, _, _, 2, rfl, rfl, h1, rfl, ?_⟩⟩
        have b := modM (sd * 48271 + 11)
        dsimp only
        rw [up]
        have h2 : upd H r (.lst ((rowV a (i + 1) sd rs).set 2 (.int ((sd * 48271 + 11) % 2147483647)))) r = some (.lst (rowV a (i + 1) ((sd * 48271 + 11) % 2147483647) rs)) := upd_same
        obtain ⟨x, ex, lx⟩ := modN (i := (sd * 48271 + 11) % 2147483647 / 7) m1
        refine ⟨.ref r, rfl, r, _, _, _, rfl, rfl, rd h2, atI_nat (j := 2) rfl, _, _, rfl, rfl, ⟨by decide, by decide⟩, .inl ⟨_, rfl, .int many, rfl, _, _, rfl, rfl, by omega, ?_⟩⟩
        dsimp only
        rw [ex]
        exact q (i + 1) _ rs x (by omega) b.1 b.2 lx
      · -- the next cell
        have hlt : i < ns.length := by
          have : ¬ (((ns.map V.int).length : Int) < i + 1) := fun z => e (decide_eq_true z)
          rw [List.length_map] at this
          omega
        obtain ⟨j, rfl⟩ : ∃ j : Nat, i = j := ⟨i.toNat, by omega⟩
        have hj : j < ns.length := by omega
        have g : (ns.map V.int)[j]? = some (.int ns[j]) := by rw [List.getElem?_map, List.getElem?_eq_getElem hj] <;> rfl
        have ga : atI (ns.map V.int) ((j : Int) + 1 - 1) = some (.int ns[j]) := by
          rw [show (j : Int) + 1 - 1 = (j : Int) by omega]
          exact atI_nat g
        refine ⟨.ref r, rfl, r, _, _, .ref a, rfl, rfl, rd h1, atI_nat (j := 0) rfl, .ref r, rfl, r, _, _, .int ((j : Int) + 1), rfl, rfl, rd h1, atI_nat (j := 1) rfl, _, _, rfl, rfl, a, _, _, .int ns[j], rfl, rfl, src1.sq, ga, ?_⟩
        generalize ns[j] = z
        refine ⟨.ref r, rfl, r, _, _, .int sd, rfl, rfl, rd h1, atI_nat (j := 2) rfl, _, _, rfl, rfl, .inl ⟨by omega, by omega⟩, .int z, rfl, _, _, rfl, rfl, _, _, rfl, rfl, .inl ⟨_, rfl, _, _, rfl, rfl, (by show (0 : Int) < 2147483647; decide), .ref r, rfl, r, _, _, 2, rfl, rfl, h1, rfl, ?_⟩⟩
        have b := modM (sd * 48271 + z + 11)
        dsimp only
        rw [up]
        have h2 : upd H r (.lst ((rowV a ((j : Int) + 1) sd rs).set 2 (.int ((sd * 48271 + z + 11) % 2147483647)))) r = some (.lst (rowV a ((j : Int) + 1) ((sd * 48271 + z + 11) % 2147483647) rs)) := upd_same
        obtain ⟨x, ex, lx⟩ := modN (i := z) m1
        refine ⟨.int z, rfl, _, _, rfl, rfl, ⟨by decide, by decide, by decide⟩, _, _, rfl, rfl, _, rfl, ite2 (fun _ => ?_) (fun _ => ?_)⟩
        · refine ⟨.int z, rfl, .int many, rfl, _, _, rfl, rfl, divOk m1 m2 z, .ref r, rfl, r, _, _, 3, rfl, rfl, h2, rfl, ?_⟩
          refine ⟨.int z, rfl, .inl ⟨_, rfl, .int many, rfl, _, _, rfl, rfl, by omega, ?_⟩⟩
          dsimp only
          rw [ex, upd_upd]
          exact q ((j : Int) + 1) _ (z / (many : Int)) x (by omega) b.1 b.2 lx
        · refine ⟨.int z, rfl, .inl ⟨_, rfl, .int many, rfl, _, _, rfl, rfl, by omega, ?_⟩⟩
          dsimp only
          rw [ex]
          exact q ((j : Int) + 1) _ rs x (by omega) b.1 b.2 lx
end
end K04

set_option maxHeartbeats 4000000
namespace K04
open PySem PySem.Spec PyProof.Rows L2 Hd Evl
/-! ### lists of tuples of cells -/
/-- each value a tuple of these cells -/
def RefsTo (H : Hp) : List V → List (List Nat) → Prop := Paired fun v l => ∃ p, v = .ref p ∧ H p = some (.tup (l.map iV))
theorem RefsTo.ex {H H' : Hp} (e : Ex H H') : ∀ {vs : List V} {ls : List (List Nat)}, RefsTo H vs ls → RefsTo H' vs ls
  | _, _, .nil => .nil
  | _, _, .cons ⟨p, h1, h2⟩ t => .cons ⟨p, h1, e _ _ h2⟩ (RefsTo.ex e t)
theorem RefsTo.app {H : Hp} : ∀ {vs us : List V} {ls ms : List (List Nat)}, RefsTo H vs ls → RefsTo H us ms → RefsTo H (vs ++ us) (ls ++ ms)
  | _, _, _, _, .nil, s => s
  | _, _, _, _, .cons h t, s => .cons h (RefsTo.app t s)
theorem RefsTo.len {H : Hp} {vs : List V} {ls : List (List Nat)} (h : RefsTo H vs ls) : vs.length = ls.length := Paired.length h
theorem RefsTo.at_ {H : Hp} : ∀ {vs : List V} {ls : List (List Nat)} {i : Nat} {v : V}, RefsTo H vs ls → vs[i]? = some v → ∃ p l, ls[i]? = some l ∧ v = .ref p ∧ H p = some (.tup (l.map iV))
  | _, _, _, _, .nil, e => by simp at e
  | _, _, 0, _, .cons ⟨p, h1, h2⟩ _, e => by
    have e' := Option.some.inj (by simpa using e)
    exact ⟨p, _, rfl, by rw [← e', h1], h2⟩
  | _, _, i + 1, v, .cons _ t, e => by
    obtain ⟨p, l, h⟩ := RefsTo.at_ (i := i) t (by simpa using e)
    exact ⟨p, l, by simpa using h.1, h.2⟩
theorem RefsTo.at2 {H : Hp} {vs : List V} {ls : List (List Nat)} {i : Nat} {l : List Nat} (h : RefsTo H vs ls) (e : ls[i]? = some l) : ∃ p, vs[i]? = some (.ref p) ∧ H p = some (.tup (l.map iV)) := by
  have hi : i < vs.length := by rw [h.len]; exact (List.getElem?_eq_some_iff.mp e).1
  obtain ⟨p, l', h1, h2, h3⟩ := h.at_ (List.getElem?_eq_getElem hi)
  rw [e] at h1
  cases h1
  exact ⟨p, by rw [List.getElem?_eq_getElem hi, h2], h3⟩
/-! ### tuples of ints as data -/
abbrev iD (c : Nat) : PyData := .int (c : Int)
theorem dp_ints {K : PySem.W.Frag} {H : Hp} : ∀ l : List Nat, DpAll K H (l.map iV) (l.map iD)
  | [] => .nil
  | c :: r => .cons (.int _) (dp_ints r)
theorem lay_ints : ∀ l : List Nat, PyData.canLayAll0 (l.map iD) = true
  | [] => rfl
  | c :: r => by
    show (PyData.canLay0 (PyData.int (c : Int)) && PyData.canLayAll0 (r.map iD)) = true
    rw [lay_ints r] <;> rfl
theorem depth_ints : ∀ l : List Nat, PyData.depthAll (l.map iD) = 0
  | [] => rfl
  | c :: r => by
    show max (PyData.depth (PyData.int (c : Int))) (PyData.depthAll (r.map iD)) = 0
    rw [depth_ints r] <;> rfl
theorem shaped_ints (l : List Nat) : SeqAt.shaped (.tuple (l.map iD)) = true := by
  show (PyData.canLayAll0 (l.map iD) && decide (PyData.depthAll (l.map iD) + 1 ≤ 64)) = true
  rw [lay_ints, depth_ints] <;> rfl
theorem eqv_nil (l : List Nat) : PyData.eqv (.tuple (l.map iD)) (.tuple []) = l.isEmpty := by
  cases l <;> rfl
theorem atI_back {l : List Nat} (h : l.isEmpty = false) : atI (l.map iV) (-1) = some (iV (lastN l)) := by
  cases l with
  | nil => cases h
  | cons x r =>
    have e : (x :: r).map iV = ((x :: r).dropLast.map iV) ++ [iV ((x :: r).getLast (List.cons_ne_nil x r))] := by
      rw [← List.map_singleton, ← List.map_append, List.dropLast_concat_getLast]
    have e2 : lastN (x :: r) = (x :: r).getLast (List.cons_ne_nil x r) := by
      unfold lastN
      rw [List.getLast?_eq_some_getLast (List.cons_ne_nil x r)] <;> rfl
    rw [e, e2]
    exact atI_last _ _
theorem filter_succ {p : Nat → Bool} {i : Nat} : (List.range (i + 1)).filter p = (List.range i).filter p ++ (if p i = true then [i] else []) := by
  rw [List.range_succ, List.filter_append]
  by_cases h : p i = true
  · rw [if_pos h, List.filter_cons, if_pos h] <;> rfl
  · rw [if_neg h, List.filter_cons, if_neg h] <;> rfl
section
variable {CX : CXT} {P : Program} {w : World} {K : PySem.W.Frag} {mg : Str → Option Value} {base : Heap}
end
end K04

set_option maxHeartbeats 4000000
namespace K04
open PySem PySem.Spec PyProof.Rows L2 Hd Evl
/-! ### data -/
def dk : PyData → String
  | .none => "NoneType"
  | .bool _ => "bool"
  | .int _ => "int"
  | .str _ => "str"
  | .list _ => "list"
  | .tuple _ => "tuple"
  | .dict _ => "dict"
section
variable {K : PySem.W.Frag} {H H' : Hp}
theorem sqL_ty {a : Addr} {xs : List V} (h : SqL K H a xs) : TyX K H (.ref a) (.type "list") := by
  rcases h with (h | ⟨o, h⟩) | ⟨o, its, n, h1, h2, _⟩
  · exact .base (.lst h)
  · exact .base (.frz h)
  · exact .kList h1 h2
theorem sqT_ty {a : Addr} {xs : List V} (h : SqT K H a xs) : TyX K H (.ref a) (.type "tuple") := by
  rcases h with (h | ⟨o, h⟩) | ⟨o, its, n, h1, h2, _⟩
  · exact .base (.tup h)
  · exact .fTuple h
  · exact .kTuple h1 h2
theorem dp_ty {v : V} {d : PyData} (h : Dp K H v d) : TyX K H v (.type (dk d)) := by
  cases h with
  | non => exact .base .non
  | bl b => exact .base (.bl b)
  | int i => exact .base (.int i)
  | str x => exact .base (.str x)
  | lst h _ => exact sqL_ty h
  | tup h _ => exact sqT_ty h
mutual
theorem dp_ex (e : Ex H H') : ∀ (d : PyData) (v : V), Dp K H v d → Dp K H' v d
  | .none, _, h => by cases h; exact .non
  | .bool b, _, h => by cases h; exact .bl b
  | .int i, _, h => by cases h; exact .int i
  | .str x, _, h => by cases h; exact .str x
  | .list ds, _, h => by
    cases h with
    | lst h1 h2 => exact .lst (ex_l e h1) (dpAll_ex e ds _ h2)
  | .tuple ds, _, h => by
    cases h with
    | tup h1 h2 => exact .tup (ex_t e h1) (dpAll_ex e ds _ h2)
  | .dict _, _, h => by cases h
theorem dpAll_ex (e : Ex H H') : ∀ (ds : List PyData) (vs : List V), DpAll K H vs ds → DpAll K H' vs ds
  | [], _, h => by cases h; exact .nil
  | d :: ds, _, h => by
    cases h with
    | cons h1 h2 => exact .cons (dp_ex e d _ h1) (dpAll_ex e ds _ h2)
end
theorem dpAll_len : ∀ {ds : List PyData} {vs : List V}, DpAll K H vs ds → vs.length = ds.length
  | [], _, h => by cases h; rfl
  | d :: ds, _, h => by
    cases h with
    | cons h1 h2 => rw [List.length_cons, List.length_cons, dpAll_len h2]
theorem dpAll_at : ∀ {ds : List PyData} {vs : List V} {i : Nat} {d : PyData}, DpAll K H vs ds → ds[i]? = some d → ∃ v, vs[i]? = some v ∧ Dp K H v d
  | [], _, i, d, _, e => by simp at e
  | d0 :: ds, _, 0, d, h, e => by
    cases h with
    | cons h1 h2 =>
      have e' := Option.some.inj (by simpa using e)
      exact ⟨_, rfl, e' ▸ h1⟩
  | d0 :: ds, _, i + 1, d, h, e => by
    cases h with
    | cons h1 h2 =>
      obtain ⟨v, a, b⟩ := dpAll_at (i := i) h2 (by simpa using e)
      exact ⟨v, by simpa using a, b⟩
theorem depth_at : ∀ {ds : List PyData} {i : Nat} {d : PyData}, ds[i]? = some d → PyData.depth d ≤ PyData.depthAll ds
  | [], i, d, e => by simp at e
  | d0 :: ds, 0, d, e => by
    have e' := Option.some.inj (by simpa using e)
    rw [← e']
    exact Nat.le_max_left _ _
  | d0 :: ds, i + 1, d, e => Nat.le_trans (depth_at (i := i) (by simpa using e)) (Nat.le_max_right _ _)
end
mutual
/-- no list longer than this -/
def wideD : PyData → Nat
  | .list xs | .tuple xs => max xs.length (wideAll xs)
  | _ => 0
def wideAll : List PyData → Nat
  | [] => 0
  | x :: xs => max (wideD x) (wideAll xs)
end
theorem wide_at : ∀ {ds : List PyData} {i : Nat} {d : PyData}, ds[i]? = some d → wideD d ≤ wideAll ds
  | [], i, d, e => by simp at e
  | d0 :: ds, 0, d, e => by
    have e' := Option.some.inj (by simpa using e)
    rw [← e']
    exact Nat.le_max_left _ _
  | d0 :: ds, i + 1, d, e => Nat.le_trans (wide_at (i := i) (by simpa using e)) (Nat.le_max_right _ _)
theorem rIx_of {K : PySem.W.Frag} {H : Hp} {a : Addr} {xs : List V} {i : Nat} {x v : V} {Q : VK} (ev : v = .ref a) (h : SqL K H a xs ∨ SqT K H a xs) (hx : xs[i]? = some x) (q : Q x H) : rIx K v (.int (i : Int)) H Q := by
  rcases h with h | h
  · exact .inl ⟨a, xs, i, x, ev, rfl, h, atI_nat hx, q⟩
  · exact .inr (.inl ⟨a, xs, i, x, ev, rfl, h, atI_nat hx, q⟩)
theorem kit2 {K : PySem.W.Frag} (s : String) (hs : s = "NoneType" ∨ s = "bool" ∨ s = "int" ∨ s = "str" ∨ s = "list" ∨ s = "tuple") : PySem.W.kitAny K (.type s) [.type "tuple", .type "list"] = some (s == "tuple" || s == "list") := by
  rcases hs with rfl | rfl | rfl | rfl | rfl | rfl
  all_goals first
    | exact kitAny_cons (b := false) (kit_ty (by decide +kernel)) (fun _ => kitAny_cons (b := false) (kit_ty (by decide +kernel)) (fun _ => rfl) (fun z => by cases z)) (fun z => by cases z)
    | exact kitAny_cons (b := false) (kit_ty (by decide +kernel)) (fun _ => kitAny_cons (b := true) (kit_ty (by decide +kernel)) (fun z => by cases z) (fun _ => rfl)) (fun z => by cases z)
    | exact kitAny_cons (b := true) (kit_ty (by decide +kernel)) (fun z => by cases z) (fun _ => rfl)
theorem dk_of {K : PySem.W.Frag} {H : Hp} {v : V} {d : PyData} (h : Dp K H v d) : dk d = "NoneType" ∨ dk d = "bool" ∨ dk d = "int" ∨ dk d = "str" ∨ dk d = "list" ∨ dk d = "tuple" := by
  cases h <;> simp [dk]
theorem dk_is {K : PySem.W.Frag} {H : Hp} {v : V} {d : PyData} (h : Dp K H v d) (T : String) (hT : T = "int" ∨ T = "bool" ∨ T = "str" ∨ T = "list") : kitB (dk d) T = some (isK (dk d) T) := by
  rcases hT with rfl | rfl | rfl | rfl <;> rcases dk_of h with e | e | e | e | e | e <;> rw [e] <;> decide +kernel
section
variable {CX : CXT} {P : Program} {w : World} {K : PySem.W.Frag} {mg : Str → Option Value} {base : Heap}
theorem FnOk.never {f : Addr} {fd : FuncData} {ps : List Str} : FnOk P w K mg base CX 0 f fd ps (fun _ _ _ _ => False) := ⟨fun _ _ _ _ h => h.elim, fun _ _ _ _ _ _ _ _ _ _ _ _ _ h => h.elim⟩
structure AlikeP (K : PySem.W.Frag) (n : Nat) (vs : List V) (H : Hp) (Q : VK) (E : XK) : Prop where
  go : ∃ v u d, vs = [v, u] ∧ Dp K H v d ∧ Dp K H u d ∧ PyData.depth d ≤ n ∧ wideD d ≤ 100000 ∧ RetV (.bl true) H Q
/-- the same data, not deeper than n - 1 -/
def spAlike (K : PySem.W.Frag) : Nat → Sp
  | 0 => fun _ _ _ _ => False
  | n + 1 => fun vs H Q E => AlikeP K n vs H Q E
theorem ok_alike {f : Addr} {fd : FuncData} (F : FnP K "_law_alike" s__law_alike f fd) (B : Blt mg) (m : mg "_law_alike" = some (.ref f)) (b : Binds K fd ["found", "due"] []) : ∀ n, FnOk P w K mg base CX0 n f fd ["found", "due"] (spAlike K n)
  | 0 => FnOk.never
  | n + 1 => by
    have G := ok_alike F B m b n
    refine F.ok (CX := CX0) sc__law_alike (fun vs H Q E h => ?_) (fun cdv A outer s H vs Q E hr h => ?_)
    · obtain ⟨v, u, d, rfl, _⟩ := h
      rfl
    · obtain ⟨v, u, d, rfl, hv, hu, hd, hwd, q⟩ := h
      have un : (A.deeper (envOfC "_law_alike" (defScope s__law_alike) s.heap.objs.size f cdv)).units + 64 < cLine := by have := hr.un; omega
      refine ⟨_, (pss_cons (ps_if (pt_val (pe_callB call_isiT (by rfl) B.isinstance (by decide +kernel) (pa_cons (pv 1) (pa_cons (pe_tup (pa_cons (pe_ty "tuple" (by rfl) B.tuple (by decide +kernel)) (pa_cons (pe_ty "list" (by rfl) B.list (by decide +kernel)) pa_nil))) pa_nil))))
        (pss_cons (ps_if (PW.pt (pw_or (pt_not (pt_val (pe_callB call_isiT (by rfl) B.isinstance (by decide +kernel) (pa_cons (pv 0) (pa_cons (pe_tup (pa_cons (pe_ty "tuple" (by rfl) B.tuple (by decide +kernel)) (pa_cons (pe_ty "list" (by rfl) B.list (by decide +kernel)) pa_nil))) pa_nil))))) (pw_or1 (pt_cmpR op_ne (pe_callB call_isS (by rfl) B.isinstance (by decide +kernel) (pa_cons (pv 0) (pa_cons (pe_ty "list" (by rfl) B.list (by decide +kernel)) pa_nil))) (pe_callB call_isS (by rfl) B.isinstance (by decide +kernel) (pa_cons (pv 1) (pa_cons (pe_ty "list" (by rfl) B.list (by decide +kernel)) pa_nil))) (nomark _))))) (pss_one (ps_ret pe_bl)) pss_nil)
        (pss_cons (ps_if (pt_cmpR op_ne (pe_callB call_len_seq (by rfl) B.len (by decide +kernel) (pa_cons (pv 0) pa_nil)) (pe_callB call_len_seq (by rfl) B.len (by decide +kernel) (pa_cons (pv 1) pa_nil)) (nomark _)) (pss_one (ps_ret pe_bl)) pss_nil)
        (pss_one (ps_ret (pe_cmpR (op_eqD un) (pe_lc (own := [("k", 2)]) (g := gName 2) (by rfl) sc__law_alike.nd (pi_range1 (by rfl) B.range (pa_cons (pe_callB call_len_seq (by rfl) B.len (by decide +kernel) (pa_cons (pv 1) pa_nil)) pa_nil)) (blkOk_by (own := [("k", 2)]) (N := n__law_alike) (sc := defScope s__law_alike) (by decide +kernel)) (fun _ _ _ _ _ => pg_name (i := 2) sc__law_alike.nd rfl (Or.inl rfl))
          (fun _ _ _ _ _ => pts_one (pt_not (pt_val (pe_call G hr (by rfl) m F.kp b .nil pass0 (pa_cons (pe_ix (ix_seq : IxR _ (rIx K)) (pv 0) (pv 2) (fun _ _ => rfl)) (pa_cons (pe_ix (ix_seq : IxR _ (rIx K)) (pv 1) (pv 2) (fun _ _ => rfl)) pa_nil)))))) (fun _ _ _ _ _ => (pv 2))) (pe_lst pa_nil) (nomark _)))))) pss_nil)
        (pss_cons (ps_if (PW.pt (pw_or (pt_cmpR op_isN (pv 1) pe_non (nomark _)) (pw_or1 (pt_val (pe_callB call_isS (by rfl) B.isinstance (by decide +kernel) (pa_cons (pv 1) (pa_cons (pe_ty "str" (by rfl) B.str (by decide +kernel)) pa_nil))))))) (pss_one (ps_ret (pe_and (pe_cmpR op_eq (pv 0) (pv 1) (nomark _)) (pe_one (pe_cmpR op_eq (pe_callB call_isS (by rfl) B.isinstance (by decide +kernel) (pa_cons (pv 0) (pa_cons (pe_ty "str" (by rfl) B.str (by decide +kernel)) pa_nil))) (pe_callB call_isS (by rfl) B.isinstance (by decide +kernel) (pa_cons (pv 1) (pa_cons (pe_ty "str" (by rfl) B.str (by decide +kernel)) pa_nil))) (nomark _)))))) pss_nil)
        (pss_one (ps_ret (pe_and (pe_callB call_isS (by rfl) B.isinstance (by decide +kernel) (pa_cons (pv 0) (pa_cons (pe_ty "int" (by rfl) B.int (by decide +kernel)) pa_nil))) (pe_and (pe_cmpR op_eq (pe_callB call_isS (by rfl) B.isinstance (by decide +kernel) (pa_cons (pv 0) (pa_cons (pe_ty "bool" (by rfl) B.bool (by decide +kernel)) pa_nil))) (pe_callB call_isS (by rfl) B.isinstance (by decide +kernel) (pa_cons (pv 1) (pa_cons (pe_ty "bool" (by rfl) B.bool (by decide +kernel)) pa_nil))) (nomark _)) (pe_one (pe_cmpR op_eq (pv 0) (pv 1) (nomark _))))))))), ?_⟩
      -- isinstance(due, (tuple, list))
      refine ⟨u, rfl, by show 2 ≤ sizeLine; decide, fun t1 n1 => ?_⟩
      have e1 : Ex H (upd H t1 (.tup [.ty "tuple", .ty "list"])) := Ex.new n1
      refine ⟨u, t1, _, .type (dk d), [.type "tuple", .type "list"], _, rfl, upd_same, .cons (.ty _) (.cons (.ty _) .nil), dp_ty (dp_ex e1 d u hu), kit2 (dk d) (dk_of hu), _, rfl, ?_⟩
      generalize upd H t1 (.tup [.ty "tuple", .ty "list"]) = H1 at e1
      have hv1 := dp_ex e1 d v hv
      have hu1 := dp_ex e1 d u hu
      -- flat ones
      have word : ∀ x : V, v = x → u = x → scal x x = true → tAndV (tOp rEq (tVar 0) (tVar 1)) (tOp rEq (tCB (rIsS K) (tCons (tVar 0) (tCons (tC (.ty "str")) tNil))) (tCB (rIsS K) (tCons (tVar 1) (tCons (tC (.ty "str")) tNil)))) [some v, some u, none] H1 Q := by
        intro x ev eu hs
        refine ⟨v, rfl, u, rfl, by rw [ev, eu]; exact hs, _, rfl, ?_⟩
        rw [decide_eq_true (ev.trans eu.symm)]
        have hbk := dk_is hv "str" (by simp)
        generalize isK (dk d) "str" = bk at hbk
        refine iteT ⟨v, rfl, v, dk d, "str", bk, rfl, dp_ty hv1, hbk, u, rfl, u, dk d, "str", bk, rfl, dp_ty hu1, hbk, rfl, ?_⟩
        rw [decide_eq_true rfl]
        exact q H1 e1
      have num : ∀ x : V, v = x → u = x → scal x x = true → kitB (dk d) "int" = some true → tAndV (tCB (rIsS K) (tCons (tVar 0) (tCons (tC (.ty "int")) tNil))) (tAndV (tOp rEq (tCB (rIsS K) (tCons (tVar 0) (tCons (tC (.ty "bool")) tNil))) (tCB (rIsS K) (tCons (tVar 1) (tCons (tC (.ty "bool")) tNil)))) (tOp rEq (tVar 0) (tVar 1))) [some v, some u, none] H1 Q := by
        intro x ev eu hs hk
        have hbk := dk_is hv "bool" (by simp)
        generalize isK (dk d) "bool" = bk at hbk
        refine ⟨v, rfl, v, dk d, "int", true, rfl, dp_ty hv1, hk, true, rfl, iteT ⟨v, rfl, v, dk d, "bool", bk, rfl, dp_ty hv1, hbk, u, rfl, u, dk d, "bool", bk, rfl, dp_ty hu1, hbk, rfl, _, rfl, ?_⟩⟩
        rw [decide_eq_true rfl]
        refine iteT ⟨v, rfl, u, rfl, by rw [ev, eu]; exact hs, ?_⟩
        rw [decide_eq_true (ev.trans eu.symm)]
        exact q H1 e1
      have seq : (dk d == "tuple" || dk d == "list") = true → ∃ (a1 a2 : Addr) (xs ys : List V) (ds : List PyData), v = .ref a1 ∧ u = .ref a2 ∧ (SqL K H1 a1 xs ∨ SqT K H1 a1 xs) ∧ (SqL K H1 a2 ys ∨ SqT K H1 a2 ys) ∧ DpAll K H1 xs ds ∧ DpAll K H1 ys ds ∧ PyData.depthAll ds + 1 ≤ n ∧ max ds.length (wideAll ds) ≤ 100000 := by
        intro hk
        cases d with
        | list ds =>
          cases hv1 with
          | lst h1 h2 =>
            cases hu1 with
            | lst h3 h4 => exact ⟨_, _, _, _, ds, rfl, rfl, .inl h1, .inl h3, h2, h4, hd, hwd⟩
        | tuple ds =>
          cases hv1 with
          | tup h1 h2 =>
            cases hu1 with
            | tup h3 h4 => exact ⟨_, _, _, _, ds, rfl, rfl, .inr h1, .inr h3, h2, h4, hd, hwd⟩
        | none => exact absurd hk (by decide)
        | bool b => exact absurd hk (by simp [dk])
        | int i => exact absurd hk (by simp [dk])
        | str x => exact absurd hk (by simp [dk])
        | dict x => exact absurd hk (by simp [dk])
      cases hk : (dk d == "tuple" || dk d == "list") with
      | false =>
        refine iteF ⟨u, rfl, rfl, _, rfl, ?_⟩
        cases d with
        | none =>
          cases hv
          cases hu
          exact iteT (iteT (word .non rfl rfl rfl))
        | str x =>
          cases hv
          cases hu
          refine iteF ⟨.str x, rfl, .str x, "str", "str", true, rfl, dp_ty hu1, by decide +kernel, true, rfl, iteT (word (.str x) rfl rfl rfl)⟩
        | int i =>
          cases hv
          cases hu
          refine iteF ⟨.int i, rfl, .int i, "int", "str", false, rfl, dp_ty hu1, by decide +kernel, false, rfl, iteF (num (.int i) rfl rfl rfl (by show kitB "int" "int" = some true; decide +kernel))⟩
        | bool b =>
          cases hv
          cases hu
          refine iteF ⟨.bl b, rfl, .bl b, "bool", "str", false, rfl, dp_ty hu1, by decide +kernel, false, rfl, iteF (num (.bl b) rfl rfl rfl (by show kitB "bool" "int" = some true; decide +kernel))⟩
        | list ds => exact absurd hk (by simp [dk])
        | tuple ds => exact absurd hk (by simp [dk])
        | dict x => cases hv
      | true =>
        obtain ⟨a1, a2, xs, ys, ds, ev, eu, s1, s2, d1, d2, hn, hw⟩ := seq hk
        refine iteT ⟨v, rfl, by show 2 ≤ sizeLine; decide, fun t2 n2 => ?_⟩
        have e2 : Ex H1 (upd H1 t2 (.tup [.ty "tuple", .ty "list"])) := Ex.new n2
        refine ⟨v, t2, _, .type (dk d), [.type "tuple", .type "list"], true, rfl, upd_same, .cons (.ty _) (.cons (.ty _) .nil), dp_ty (dp_ex e2 d v hv1), by rw [← hk]; exact kit2 (dk d) (dk_of hu), true, rfl, iteF ?_⟩
        generalize upd H1 t2 (.tup [.ty "tuple", .ty "list"]) = H2 at e2
        have hbk := dk_is hv "list" (by simp)
        generalize isK (dk d) "list" = bk at hbk
        refine ⟨v, rfl, v, dk d, "list", bk, rfl, dp_ty (dp_ex e2 d v hv1), hbk, u, rfl, u, dk d, "list", bk, rfl, dp_ty (dp_ex e2 d u hu1), hbk, rfl, _, rfl, ?_⟩
        rw [decide_eq_true rfl]
        have s1' : SqL K H2 a1 xs ∨ SqT K H2 a1 xs := s1.elim (fun h => .inl (ex_l e2 h)) fun h => .inr (ex_t e2 h)
        have s2' : SqL K H2 a2 ys ∨ SqT K H2 a2 ys := s2.elim (fun h => .inl (ex_l e2 h)) fun h => .inr (ex_t e2 h)
        have l1 := dpAll_len d1
        have l2 := dpAll_len d2
        refine iteF ⟨v, rfl, a1, xs, by rw [ev], s1', u, rfl, a2, ys, by rw [eu], s2', rfl, _, rfl, ?_⟩
        rw [l1, l2, decide_eq_true rfl]
        have hw1 : ds.length ≤ 100000 := Nat.le_trans (Nat.le_max_left _ _) hw
        have hw2 : wideAll ds ≤ 100000 := Nat.le_trans (Nat.le_max_right _ _) hw
        refine iteF ⟨u, rfl, a2, ys, by rw [eu], s2', (ys.length : Int), rfl, by omega, by omega, fun D nD => ?_⟩
        refine lc_range (lo := 0) (n := ys.length) (fun i G' => Ex H2 G' ∧ H2 D = none ∧ G' D = some (.lst [])) ⟨Ex.new nD, nD, upd_same⟩ (fun i G' hi w => ?_) (fun G' w => ?_)
        · obtain ⟨e3, nD', eD⟩ := w
          have zi : (0 : Int) + (i : Int) = (i : Int) := by omega
          rw [zi]
          have hid : i < ds.length := by omega
          obtain ⟨x, hx, dx⟩ := dpAll_at d1 (List.getElem?_eq_getElem hid)
          obtain ⟨y, hy, dy⟩ := dpAll_at d2 (List.getElem?_eq_getElem hid)
          have e13 : Ex H1 G' := e2.trans e3
          have s1g : SqL K G' a1 xs ∨ SqT K G' a1 xs := s1.elim (fun h => .inl (ex_l e13 h)) fun h => .inr (ex_t e13 h)
          have s2g : SqL K G' a2 ys ∨ SqT K G' a2 ys := s2.elim (fun h => .inl (ex_l e13 h)) fun h => .inr (ex_t e13 h)
          refine ⟨rfl, v, rfl, .int i, rfl, rIx_of ev s1g hx ⟨u, rfl, .int i, rfl, rIx_of eu s2g hy ?_⟩⟩
          have b1 := depth_at (List.getElem?_eq_getElem hid)
          have b2 := wide_at (List.getElem?_eq_getElem hid)
          cases n with
          | zero => omega
          | succ n =>
            exact ⟨x, y, ds[i], rfl, dp_ex e13 _ x dx, dp_ex e13 _ y dy, by omega, by omega, fun G4 e4 => ⟨true, rfl, iteF ⟨e3.trans e4, nD', e4 _ _ eD⟩⟩⟩
        · obtain ⟨e3, nD', eD⟩ := w
          refine ⟨Nat.zero_le _, fun z nz => ?_⟩
          have e4 : Ex G' (upd G' z (.lst [])) := Ex.new nz
          exact ⟨.list [], .list [], .lst (SqL.of (e4 _ _ eD)) .nil, .lst (SqL.of upd_same) .nil, rfl, rfl, q _ (((e1.trans e2).trans e3).trans e4)⟩
end
end K04

set_option maxHeartbeats 4000000
namespace K04
open PySem PySem.Spec PyProof.Rows L2 Hd Evl
/-! ### what stays while the program runs: tuples, lists -/
/-- the defs of the program whose own tables change: generator expressions -/
def progTabs : List He.Defn := [("is_moment", none), ("is_session", none), ("moment_count", none), ("upper_moment", none), ("above", none), ("opened", none), ("Store", some "sealed_of")]
def Sk (K : PySem.W.Frag) (P : Addr) : Prop := ∃ p ∈ progTabs, P = (He.cT K p).2
/-- tuples stay, lists are lists -/
structure Kw (H H' : Hp) : Prop where
  t : ∀ b xs, H b = some (.tup xs) → H' b = some (.tup xs)
  l : ∀ b xs, H b = some (.lst xs) → ∃ ys, H' b = some (.lst ys)
theorem Kw.refl {H : Hp} : Kw H H := ⟨fun _ _ h => h, fun _ _ h => ⟨_, h⟩⟩
theorem Kw.trans {H H1 H2 : Hp} (a : Kw H H1) (b : Kw H1 H2) : Kw H H2 := ⟨fun c xs h => b.t c xs (a.t c xs h), fun c xs h => let ⟨ys, g⟩ := a.l c xs h; b.l c ys g⟩
theorem Kw.ex {H H1 : Hp} (e : Ex H H1) : Kw H H1 := ⟨fun c xs h => e _ _ h, fun c xs h => ⟨_, e _ _ h⟩⟩
theorem Kw.put {H : Hp} {D : Addr} {xs ys : List V} (h : H D = some (.lst xs)) : Kw H (upd H D (.lst ys)) := ⟨fun c zs g => by
  rw [upd_ne (fun e => by rw [e, h] at g; cases g)]
  exact g, fun c zs g => by
  by_cases e : c = D
  · exact ⟨ys, by rw [e, upd_same]⟩
  · exact ⟨zs, by rw [upd_ne e]; exact g⟩⟩
/-- all stays but tables in S; tables are tables -/
structure Kl (S : Addr → Prop) (H H' : Hp) : Prop where
  e : ∀ b o, H b = some o → (∀ ps, o ≠ .tbl ps) → H' b = some o
  s : ∀ b o, ¬ S b → H b = some o → H' b = some o
  g : ∀ P, GxR.TabG H P → GxR.TabG H' P
abbrev Ks (K : PySem.W.Frag) (H H' : Hp) : Prop := Kl (Sk K) H H'
theorem tab_ex {Pt : Addr} {H H' : Hp} (g : GxR.TabG H Pt) (e : Ex H H') : GxR.TabG H' Pt := let ⟨ps, h1, h2⟩ := g; ⟨ps, e _ _ h1, h2⟩
section
variable {S : Addr → Prop} {K : PySem.W.Frag}
theorem Kl.t {H H' : Hp} (a : Kl S H H') (b : Addr) (xs : List V) (h : H b = some (.tup xs)) : H' b = some (.tup xs) := a.e b _ h fun ps z => by cases z
theorem Kl.l {H H' : Hp} (a : Kl S H H') (b : Addr) (xs : List V) (h : H b = some (.lst xs)) : H' b = some (.lst xs) := a.e b _ h fun ps z => by cases z
theorem Kl.w {H H' : Hp} (a : Kl S H H') : Kw H H' := ⟨a.t, fun b xs h => ⟨xs, a.l b xs h⟩⟩
theorem Kl.refl {H : Hp} : Kl S H H := ⟨fun _ _ h _ => h, fun _ _ _ h => h, fun _ h => h⟩
theorem Kl.trans {H H1 H2 : Hp} (a : Kl S H H1) (b : Kl S H1 H2) : Kl S H H2 := ⟨fun c o h n => b.e c o (a.e c o h n) n, fun c o n h => b.s c o n (a.s c o n h), fun c h => b.g c (a.g c h)⟩
theorem Kl.ex {H H1 : Hp} (e : Ex H H1) : Kl S H H1 := ⟨fun c xs h _ => e _ _ h, fun c xs _ h => e _ _ h, fun c h => tab_ex h e⟩
theorem Kl.mono {S' : Addr → Prop} {H H1 : Hp} (a : Kl S H H1) (f : ∀ b, S b → S' b) : Kl S' H H1 := ⟨a.e, fun b o n h => a.s b o (fun z => n (f b z)) h, a.g⟩
theorem Ks.refl {H : Hp} : Ks K H H := Kl.refl
theorem Ks.trans {H H1 H2 : Hp} (a : Ks K H H1) (b : Ks K H1 H2) : Ks K H H2 := Kl.trans a b
theorem Ks.ex {H H1 : Hp} (e : Ex H H1) : Ks K H H1 := Kl.ex e
theorem Ks.tab {P : Addr} {H H1 : Hp} (k : Sk K P) (g : GxR.TabG H P) (t : GxR.Tabbed P H H1) : Ks K H H1 := by
  obtain ⟨ps, hP, _⟩ := g
  refine ⟨fun c o h n => ?_, fun c o n h => ?_, fun c h => ?_⟩
  · rw [t.2 c (fun e => by rw [e, hP] at h; exact n ps (Option.some.inj h).symm)]
    exact h
  · rw [t.2 c (fun e => n (e ▸ k))]
    exact h
  · by_cases e : c = P
    · rw [e]
      exact t.1
    · obtain ⟨qs, h1, h2⟩ := h
      exact ⟨qs, (t.2 c e).trans h1, h2⟩
end
theorem HouseAt.kw {H H' : Hp} {a : Addr} {n k d p c : Nat} (h : HouseAt H a n k d p c) (e : Kw H H') : HouseAt H' a n k d p c := { h with at_ := e.t _ _ h.at_ }
theorem HouseAt.ks {S : Addr → Prop} {H H' : Hp} {a : Addr} {n k d p c : Nat} (h : HouseAt H a n k d p c) (e : Kl S H H') : HouseAt H' a n k d p c := h.kw e.w
theorem KindV.kw {K : PySem.W.Frag} {H H' : Hp} {v : V} {s : String} (h : KindV K H v s) (e : Kw H H') : KindV K H' v s := by
  cases h with
  | non => exact .non
  | bl b => exact .bl b
  | int i => exact .int i
  | str x => exact .str x
  | lst h => exact (let ⟨ys, g⟩ := e.l _ _ h; .lst g)
  | tup h => exact .tup (e.t _ _ h)
theorem KindV.ks {S : Addr → Prop} {K : PySem.W.Frag} {H H' : Hp} {v : V} {s : String} (h : KindV K H v s) (e : Kl S H H') : KindV K H' v s := h.kw e.w
/-! ### deeds, moments -/
def deedB (d p : Nat) : List V → Bool
  | [x, y, z] => isNum x 0 ((d : Int) - 1) && (isNum y 0 ((p : Int) - 1) && isNum z 0 9)
  | _ => false
inductive DeedV (K : PySem.W.Frag) (H : Hp) (d p : Nat) : V → Bool → Prop
  | out {v : V} {s : String} (h : KindV K H v s) (hs : isK s "tuple" = false) : DeedV K H d p v false
  | tup {a : Addr} {xs : List V} (h : H a = some (.tup xs)) (all : ∀ x ∈ xs, ∃ s, KindV K H x s) : DeedV K H d p (.ref a) (deedB d p xs)
theorem DeedV.kw {K : PySem.W.Frag} {H H' : Hp} {d p : Nat} {v : V} {b : Bool} (h : DeedV K H d p v b) (e : Kw H H') : DeedV K H' d p v b := by
  cases h with
  | out h hs => exact .out (h.kw e) hs
  | tup h all => exact .tup (e.t _ _ h) fun x hx => let ⟨s, q⟩ := all x hx; ⟨s, q.kw e⟩
theorem DeedV.ks {S : Addr → Prop} {K : PySem.W.Frag} {H H' : Hp} {d p : Nat} {v : V} {b : Bool} (h : DeedV K H d p v b) (e : Kl S H H') : DeedV K H' d p v b := h.kw e.w
inductive MomentV (K : PySem.W.Frag) (H : Hp) (d p : Nat) : V → Bool → Prop
  | out {v : V} {s : String} (h : KindV K H v s) (hs : isK s "tuple" = false) : MomentV K H d p v false
  | tup {a : Addr} {xs : List V} {bs : List Bool} (h : H a = some (.tup xs)) (hb : Paired (DeedV K H d p) xs bs) : MomentV K H d p (.ref a) (decide (xs.length ≤ 6) && bs.all id)
section
variable {CX : CXT} {P : Program} {w : World} {K : PySem.W.Frag} {mg : Str → Option Value} {base : Heap} {CB CN : Addr}
def spDrawer (K : PySem.W.Frag) : Sp := fun vs H Q _ => ∃ a n k d p c v s, vs = [.ref a, v] ∧ HouseAt H a n k d p c ∧ KindV K H v s ∧ Q (.bl (isNum v 0 ((d : Int) - 1))) H
theorem ok_is_drawer {f fN : Addr} {fd fdN : FuncData} (F : FnP K "is_drawer" s_is_drawer f fd) (T : Fn P w K mg base CX0 1 "is_number" ["value", "least", "most"] (spNumber K) fN fdN) : FnOk P w K mg base CX 2 f fd ["house", "value"] (spDrawer K) := by
  refine F.ok (CX := CX) sc_is_drawer (fun vs H Q E h => ?_) (fun cdv A outer s H vs Q E hr h => ?_)
  · obtain ⟨a, n, k, d, p, c, v, s, rfl, _⟩ := h
    rfl
  · obtain ⟨a, n, k, d, p, c, v, sk, rfl, h, hk, q⟩ := h
    exact ⟨_, pss_one (ps_ret (pe_call T.G hr (by rfl) T.m T.k T.b .nil pass0 (pa_cons (pv 1) (pa_cons pe_int (pa_cons (pe_op op_sub (pe_ix ix_tup (pv 0) pe_int (fun _ _ => rfl)) pe_int) pa_nil))))),
      v, rfl, .ref a, rfl, a, _, _, .int d, rfl, rfl, SqT.of h.at_, atI_nat (j := 2) rfl, _, _, rfl, rfl, v, sk, _, _, rfl, hk, q⟩
def spPage (K : PySem.W.Frag) : Sp := fun vs H Q _ => ∃ a n k d p c v s, vs = [.ref a, v] ∧ HouseAt H a n k d p c ∧ KindV K H v s ∧ Q (.bl (isNum v 0 ((p : Int) - 1))) H
theorem ok_is_page {f fN : Addr} {fd fdN : FuncData} (F : FnP K "is_page" s_is_page f fd) (T : Fn P w K mg base CX0 1 "is_number" ["value", "least", "most"] (spNumber K) fN fdN) : FnOk P w K mg base CX 2 f fd ["house", "value"] (spPage K) := by
  refine F.ok (CX := CX) sc_is_page (fun vs H Q E h => ?_) (fun cdv A outer s H vs Q E hr h => ?_)
  · obtain ⟨a, n, k, d, p, c, v, s, rfl, _⟩ := h
    rfl
  · obtain ⟨a, n, k, d, p, c, v, sk, rfl, h, hk, q⟩ := h
    exact ⟨_, pss_one (ps_ret (pe_call T.G hr (by rfl) T.m T.k T.b .nil pass0 (pa_cons (pv 1) (pa_cons pe_int (pa_cons (pe_op op_sub (pe_ix ix_tup (pv 0) pe_int (fun _ _ => rfl)) pe_int) pa_nil))))),
      v, rfl, .ref a, rfl, a, _, _, .int p, rfl, rfl, SqT.of h.at_, atI_nat (j := 3) rfl, _, _, rfl, rfl, v, sk, _, _, rfl, hk, q⟩
def spDeed (K : PySem.W.Frag) : Sp := fun vs H Q _ => ∃ a n k d p c v b, vs = [.ref a, v] ∧ HouseAt H a n k d p c ∧ DeedV K H d p v b ∧ Q (.bl b) H
theorem ok_is_deed {f fN fD fP : Addr} {fd fdN fdD fdP : FuncData} (F : FnP K "is_deed" s_is_deed f fd) (B : Blt mg) (T : Fn P w K mg base CX0 1 "is_number" ["value", "least", "most"] (spNumber K) fN fdN) (TD : Fn P w K mg base CX0 2 "is_drawer" ["house", "value"] (spDrawer K) fD fdD) (TP : Fn P w K mg base CX0 2 "is_page" ["house", "value"] (spPage K) fP fdP) :
    FnOk P w K mg base CX 3 f fd ["house", "value"] (spDeed K) := by
  refine F.ok (CX := CX) sc_is_deed (fun vs H Q E h => ?_) (fun cdv A outer s H vs Q E hr h => ?_)
  · obtain ⟨a, n, k, d, p, c, v, b, rfl, _⟩ := h
    rfl
  · obtain ⟨a, n, k, d, p, c, v, b, rfl, h, hv, q⟩ := h
    refine ⟨_, (pss_cons (ps_if (PW.pt (pw_or (pt_not (pt_val (pe_callB call_isS (by rfl) B.isinstance (by decide +kernel) (pa_cons (pv 1) (pa_cons (pe_ty "tuple" (by rfl) B.tuple (by decide +kernel)) pa_nil))))) (pw_or1 (pt_cmpR op_ne (pe_callB call_len_seq (by rfl) B.len (by decide +kernel) (pa_cons (pv 1) pa_nil)) pe_int (nomark _))))) (pss_one (ps_ret pe_bl)) pss_nil)
    (pss_cons (ps_asg (pv 1) (pg_tup rfl (pgs_cons (pg_name (i := 2) sc_is_deed.nd rfl (Or.inl rfl)) (pgs_cons (pg_name (i := 3) sc_is_deed.nd rfl (Or.inl rfl)) (pgs_cons (pg_name (i := 4) sc_is_deed.nd rfl (Or.inl rfl)) pgs_nil)))))
    (pss_one (ps_ret (pe_and (pe_call TD.G hr (by rfl) TD.m TD.k TD.b .nil pass0 (pa_cons (pv 0) (pa_cons (pv 2) pa_nil))) (pe_and (pe_call TP.G hr (by rfl) TP.m TP.k TP.b .nil pass0 (pa_cons (pv 0) (pa_cons (pv 3) pa_nil))) (pe_one (pe_call T.G (hr.mono (by decide)) (by rfl) T.m T.k T.b .nil pass0 (pa_cons (pv 4) (pa_cons pe_int (pa_cons pe_int pa_nil))))))))))), ?_⟩
    cases hv with
    | @out v sk hk e =>
      refine ⟨_, rfl, _, _, "tuple", _, rfl, hk.ty, hk.isT, _, rfl, ?_⟩
      rw [e]
      exact iteT (iteT q)
    | @tup t xs ht all =>
      refine ⟨_, rfl, _, _, "tuple", _, rfl, (KindV.tup ht).ty, (KindV.tup (K := K) ht).isT, _, rfl, iteF ?_⟩
      refine ⟨_, rfl, t, xs, rfl, .inr (SqT.of ht), rfl, _, rfl, ?_⟩
      by_cases h3 : xs.length = 3
      · match xs, h3 with
        | [x, y, z], _ =>
          refine iteF ⟨_, rfl, t, _, rfl, SqT.of ht, rfl, _, _, rfl, _, _, rfl, _, _, rfl, rfl, ?_⟩
          obtain ⟨k1, g1⟩ := all x (by simp)
          obtain ⟨k2, g2⟩ := all y (by simp)
          obtain ⟨k3, g3⟩ := all z (by simp)
          change Q (.bl (isNum x 0 ((d : Int) - 1) && (isNum y 0 ((p : Int) - 1) && isNum z 0 9))) H at q
          refine ⟨.ref a, rfl, x, rfl, a, n, k, d, p, c, x, k1, rfl, h, g1, _, rfl, ite2 (fun e => ?_) (fun e => ?_)⟩
          · rw [e, Bool.true_and] at q
            refine ⟨.ref a, rfl, y, rfl, a, n, k, d, p, c, y, k2, rfl, h, g2, _, rfl, ite2 (fun e2 => ?_) (fun e2 => ?_)⟩
            · rw [e2, Bool.true_and] at q
              exact ⟨z, rfl, z, k3, 0, 9, rfl, g3, q⟩
            · rw [Bool.not_eq_true] at e2
              rw [e2, Bool.false_and] at q
              exact q
          · rw [Bool.not_eq_true] at e
            rw [e, Bool.false_and] at q
            exact q
      · have e : (!decide (V.int (xs.length : Int) = V.int 3)) = true := by
          rw [decide_eq_false (fun z => h3 (by injection z with z; omega))] <;> rfl
        rw [e]
        have e2 : deedB d p xs = false := by
          match xs, h3 with
          | [], _ => rfl
          | [_], _ => rfl
          | [_, _], _ => rfl
          | [_, _, _], h => exact absurd rfl h
          | _ :: _ :: _ :: _ :: _, _ => rfl
        rw [e2] at q
        exact iteT q
end
end K04

set_option maxHeartbeats 4000000
namespace K04
open PySem PySem.Spec PyProof.Rows L2 Hd Evl
section
variable {CX : CXT} {P : Program} {w : World} {K : PySem.W.Frag} {mg : Str → Option Value} {base : Heap} {CB CN : Addr}
/-- the def's code object stands at c, its table at Pt -/
structure CodeAt (K : PySem.W.Frag) (mg : Str → Option Value) (base : Heap) (fd : FuncData) (c Pt : Addr) : Prop where
  e : fd.code = .ref c
  tb : GxR.TabB base mg c Pt
  sk : Sk K Pt
def spMoment (K : PySem.W.Frag) (Pt : Addr) : Sp := fun vs H Q _ => ∃ a n k d p c v b, vs = [.ref a, v] ∧ HouseAt H a n k d p c ∧ MomentV K H d p v b ∧ GxR.TabG H Pt ∧ ∀ H2, Ks K H H2 → GxR.TabG H2 Pt → Q (.bl b) H2
theorem yes_go {σ : L2.St} {H : Hp} {A B : Hp → Prop} (h : A H) : tYes σ H (fun b H3 => if b = true then A H3 else B H3) := iteT (B := B H) h
theorem paired_at {α β : Type} {R : α → β → Prop} : ∀ {xs : List α} {ys : List β} {i : Nat} {x : α}, Paired R xs ys → xs[i]? = some x → ∃ y, ys[i]? = some y ∧ R x y
  | _, _, i, x, .nil, e => by simp at e
  | _, _, 0, x, .cons h t, e => ⟨_, rfl, by have := Option.some.inj (by simpa using e); rw [← this]; exact h⟩
  | _, _, i + 1, x, .cons h t, e => by
    obtain ⟨y, e1, e2⟩ := paired_at (i := i) t (by simpa using e)
    exact ⟨y, by simpa using e1, e2⟩
theorem ok_is_moment {f fD c Pt : Addr} {fd fdD : FuncData} {tk : Tok} (F : FnP K "is_moment" s_is_moment f fd) (B : Blt mg) (hall : mg "all" = none) (hM : mg "MOST_DEEDS" = some (.int 6 tk)) (CA : CodeAt K mg base fd c Pt) (TD : Fn P w K mg base CX0 3 "is_deed" ["house", "value"] (spDeed K) fD fdD) :
    FnOk P w K mg base CX 5 f fd ["house", "value"] (spMoment K Pt) := by
  obtain ⟨oc, od, dV, kV, doc, pm, an, cdv, ct, osl, rfl, lk, hcd, _, _⟩ := F.ex
  obtain rfl : cdv = .ref c := CA.e
  refine fn_of (k := 4) lk hcd sc_is_moment (fun vs H Q E h => ?_) (fun A outer s H vs Q E hr h => ?_)
  · obtain ⟨a, n, k, d, p, c, v, b, rfl, _⟩ := h
    rfl
  · obtain ⟨a, n, k, d, p, c', v, b, rfl, h, hv, hT, q⟩ := h
    refine ⟨_, (pss_cons (ps_if (PW.pt (pw_or (pt_not (pt_val (pe_callB call_isS (by rfl) B.isinstance (by decide +kernel) (pa_cons (pv 1) (pa_cons (pe_ty "tuple" (by rfl) B.tuple (by decide +kernel)) pa_nil))))) (pw_or1 (pt_cmpR op_gt (pe_callB call_len_seq (by rfl) B.len (by decide +kernel) (pa_cons (pv 1) pa_nil)) (pe_glob (v := .int 6) rfl hM ⟨tk, rfl⟩) (nomark _))))) (pss_one (ps_ret pe_bl)) pss_nil)
    (pss_one (ps_ret (pe_allG (own := [("deed", 2)]) (g := gName 2) (k := 3) hr (by rfl) hall CA.tb rfl (genOk_by (by rfl)) sc_is_moment.nd (pi_tup (pv 1)) (fun A s H code fp pn r => pg_name (i := 2) sc_is_moment.nd rfl (Or.inl rfl)) (fun A s H code fp pn r => pts_nil)
      (fun A s H code fp pn r => pe_call TD.G r (by rfl) TD.m TD.k TD.b .nil pass0 (pa_cons (pv 0) (pa_cons (pv 2) pa_nil))))))), ?_⟩
    cases hv with
    | @out v sk hk e =>
      refine ⟨_, rfl, _, _, "tuple", _, rfl, hk.ty, hk.isT, _, rfl, ?_⟩
      rw [e]
      exact iteT (iteT (q H Ks.refl hT))
    | @tup t xs bs ht hb =>
      refine ⟨_, rfl, _, _, "tuple", _, rfl, (KindV.tup ht).ty, (KindV.tup (K := K) ht).isT, _, rfl, iteF ?_⟩
      refine ⟨_, rfl, t, xs, rfl, .inr (SqT.of ht), _, _, rfl, rfl, _, rfl, ite2 (fun e => ?_) (fun e => ?_)⟩
      · have e6 : ¬ xs.length ≤ 6 := by have := of_decide_eq_true e; omega
        rw [decide_eq_false e6, Bool.false_and] at q
        exact q H Ks.refl hT
      · have e6 : xs.length ≤ 6 := by
          rw [decide_eq_true_eq] at e
          omega
        rw [decide_eq_true e6, Bool.true_and] at q
        have hlen := Paired.length hb
        refine ⟨.ref t, rfl, t, rfl, ⟨xs, SqT.of ht⟩, hT, fun H2 tb => gt_tup (xs := xs) (fun _ i H' => Ks K H H' ∧ GxR.TabG H' Pt ∧ (bs.take i).all id = true) (fun _ i H' _ w => SqT.of (w.1.t _ _ ht)) (fun u i x H' hx w => ?_) (fun u H' w => ?_) (c0 := ()) ⟨Ks.tab CA.sk hT tb, tb.1, rfl⟩⟩
        · obtain ⟨ks, tg, al⟩ := w
          obtain ⟨b, eb, dv⟩ := paired_at hb hx
          refine ⟨rfl, yes_go ⟨.ref a, rfl, x, rfl, a, n, k, d, p, c', x, b, rfl, h.ks ks, dv.ks ks, b, rfl, fun z => ⟨ks, tg, ?_⟩, fun z => ?_⟩⟩
          · rw [List.take_succ, eb, z, List.all_append, al] <;> rfl
          · have ef : bs.all id = false := by
              rw [List.all_eq_false]
              exact ⟨b, List.mem_of_getElem? eb, by rw [z]; decide⟩
            rw [ef] at q
            exact q H' ks tg
        · obtain ⟨ks, tg, al⟩ := w
          rw [hlen, List.take_length] at al
          rw [al] at q
          exact q H' ks tg
end
end K04

set_option maxHeartbeats 4000000
namespace K04
open PySem PySem.Spec PyProof.Rows L2 Hd Evl
/-! ### stories -/
theorem paired_imp {α β : Type} {R S : α → β → Prop} (f : ∀ a b, R a b → S a b) : ∀ {xs : List α} {ys : List β}, Paired R xs ys → Paired S xs ys
  | _, _, .nil => .nil
  | _, _, .cons h t => .cons (f _ _ h) (paired_imp f t)
theorem MomentV.kw {K : PySem.W.Frag} {H H' : Hp} {d p : Nat} {v : V} {b : Bool} (h : MomentV K H d p v b) (e : Kw H H') : MomentV K H' d p v b := by
  cases h with
  | out h hs => exact .out (h.kw e) hs
  | tup h hb => exact .tup (e.t _ _ h) (paired_imp (fun _ _ q => q.kw e) hb)
theorem MomentV.ks {S : Addr → Prop} {K : PySem.W.Frag} {H H' : Hp} {d p : Nat} {v : V} {b : Bool} (h : MomentV K H d p v b) (e : Kl S H H') : MomentV K H' d p v b := h.kw e.w
inductive StoryV (K : PySem.W.Frag) (H : Hp) (d p : Nat) : V → Option (List Bool) → Prop
  | out {v : V} {s : String} (h : KindV K H v s) (hs : isK s "tuple" = false) : StoryV K H d p v none
  | long {a : Addr} {xs : List V} (h : H a = some (.tup xs)) (hl : 40 < xs.length) : StoryV K H d p (.ref a) none
  | tup {a : Addr} {xs : List V} {bs : List Bool} (h : H a = some (.tup xs)) (hl : xs.length ≤ 40) (hb : Paired (MomentV K H d p) xs bs) : StoryV K H d p (.ref a) (some bs)
/-- C(x), its field named f, leaves a def -/
def Out (K : PySem.W.Frag) (C : Addr) (f : Str) (Pt : Addr) (E : XK) (H : Hp) (x : V) : Prop := ∀ dd H', Ks K H H' → GxR.TabG H' Pt → H' dd = some (.xd [(f, x)]) → E (.ref C) (some dd) H'
section
variable {CX : CXT} {P : Program} {w : World} {K : PySem.W.Frag} {mg : Str → Option Value} {base : Heap} {CB CN CS : Addr}
def spStory (K : PySem.W.Frag) (CS Pt : Addr) : Sp := fun vs H Q E => ∃ a n k d p c v o, vs = [.ref a, v] ∧ HouseAt H a n k d p c ∧ StoryV K H d p v o ∧ GxR.TabG H Pt ∧ (o = none → Out K CS "index" Pt E H .non) ∧
  ∀ bs, o = some bs → (bs.all id = true → ∀ H2, Ks K H H2 → GxR.TabG H2 Pt → Q .non H2) ∧ ∀ i : Nat, bs[i]? = some false → (bs.take i).all id = true → Out K CS "index" Pt E H (.int i)
theorem ok_check_story {f fM Pt : Addr} {fd fdM : FuncData} {tk : Tok} (F : FnP K "check_story" s_check_story f fd) (B : Blt mg) (hM : mg "MOST_MOMENTS" = some (.int 40 tk)) (TM : Fn P w K mg base CX0 5 "is_moment" ["house", "value"] (spMoment K Pt) fM fdM) (ES : ErrF P w K mg base "BadStory" "index" CS) :
    FnOk P w K mg base (L2.CX P w) 6 f fd ["house", "story"] (spStory K CS Pt) := by
  refine F.ok (CX := L2.CX P w) sc_check_story (fun vs H Q E h => ?_) (fun cdv A outer s H vs Q E hr h => ?_)
  · obtain ⟨a, n, k, d, p, c, v, o, rfl, _⟩ := h
    rfl
  · obtain ⟨a, n, k, d, p, c, v, o, rfl, h, hv, hT, q1, q2⟩ := h
    have h2 := hr.mono (show 2 ≤ 5 by decide)
    refine ⟨_, (pss_cons (ps_if (PW.pt (pw_or (pt_not (pt_val (pe_callB call_isS (by rfl) B.isinstance (by decide +kernel) (pa_cons (pv 1) (pa_cons (pe_ty "tuple" (by rfl) B.tuple (by decide +kernel)) pa_nil))))) (pw_or1 (pt_cmpR op_gt (pe_callB call_len_seq (by rfl) B.len (by decide +kernel) (pa_cons (pv 1) pa_nil)) (pe_glob (v := .int 40) rfl hM ⟨tk, rfl⟩) (nomark _))))) (pss_one (ps_raiseF ES rfl h2 (takes_of (E := E) rfl rfl rfl rfl) (by rfl) (pa_cons pe_non pa_nil))) pss_nil)
    (pss_one (ps_for (passes_of rfl) rfl (pi_enumT (by rfl) B.enumerate (pa_cons (pv 1) pa_nil)) (pg_tup rfl (pgs_cons (pg_name (i := 2) sc_check_story.nd rfl (Or.inl rfl)) (pgs_cons (pg_name (i := 3) sc_check_story.nd rfl (Or.inl rfl)) pgs_nil)))
      (pss_one (ps_if (pt_not (pt_val (pe_call TM.G hr (by rfl) TM.m TM.k TM.b .nil pass0 (pa_cons (pv 0) (pa_cons (pv 3) pa_nil))))) (pss_one (ps_raiseF ES rfl h2 (takes_of (E := E) rfl rfl rfl rfl) (by rfl) (pa_cons (pv 2) pa_nil))) pss_nil))))), ?_⟩
    have bad0 : o = none → ∀ (d : Addr) (H2 : Hp), Ex H H2 → H d = none → H2 d = some (.xd [("index", .non)]) → E (.ref CS) (some d) H2 := fun eo dd H2 e _ x => q1 eo dd H2 (Ks.ex e) (tab_ex hT e) x
    cases hv with
    | @out v sk hk e =>
      refine ⟨_, rfl, _, _, "tuple", _, rfl, hk.ty, hk.isT, _, rfl, ?_⟩
      rw [e]
      exact iteT (iteT ⟨.non, rfl, fun dd H2 e n x => bad0 rfl dd H2 e n x⟩)
    | @long t xs ht hl =>
      refine ⟨_, rfl, _, _, "tuple", _, rfl, (KindV.tup ht).ty, (KindV.tup (K := K) ht).isT, _, rfl, iteF ?_⟩
      refine ⟨_, rfl, t, xs, rfl, .inr (SqT.of ht), _, _, rfl, rfl, _, rfl, ?_⟩
      rw [decide_eq_true (show (40 : Int) < (xs.length : Int) by omega)]
      exact iteT ⟨.non, rfl, fun dd H2 e n x => bad0 rfl dd H2 e n x⟩
    | @tup t xs bs ht hl hb =>
      refine ⟨_, rfl, _, _, "tuple", _, rfl, (KindV.tup ht).ty, (KindV.tup (K := K) ht).isT, _, rfl, iteF ?_⟩
      refine ⟨_, rfl, t, xs, rfl, .inr (SqT.of ht), _, _, rfl, rfl, _, rfl, ?_⟩
      rw [decide_eq_false (show ¬ (40 : Int) < (xs.length : Int) by omega)]
      obtain ⟨qn, qi⟩ := q2 bs rfl
      have hlen := Paired.length hb
      refine iteF ⟨.ref t, rfl, t, xs, rfl, SqT.of ht, ?_⟩
      refine for_enumT (xs := xs) (fun i σ G => ∃ y2 y3 : Option V, σ = [some (.ref a), some (.ref t), y2, y3] ∧ Ks K H G ∧ GxR.TabG G Pt ∧ (bs.take i).all id = true) ⟨none, none, rfl, Ks.refl, hT, rfl⟩ (fun i σ G _ w => by obtain ⟨_, _, _, ks, _⟩ := w; exact SqT.of (ks.t _ _ ht)) (fun i x σ G T2 hx w nT => ?_) (fun σ G w => ?_)
      · obtain ⟨y2, y3, rfl, ks, tg, al⟩ := w
        obtain ⟨b, eb, mv⟩ := paired_at hb hx
        have e1 := Ex.new (o := .tup [V.int (i : Nat), x]) nT
        have k1 := ks.trans (Ks.ex e1)
        refine ⟨T2, _, rfl, SqT.of upd_same, rfl, _, _, rfl, _, _, rfl, rfl, ?_⟩
        refine ⟨.ref a, rfl, x, rfl, a, n, k, d, p, c, x, b, rfl, h.ks k1, mv.ks k1, tab_ex tg e1, fun G2 k2 t2 => ⟨b, rfl, ?_⟩⟩
        cases b with
        | true =>
          refine iteF ⟨_, _, rfl, k1.trans k2, t2, ?_⟩
          rw [List.take_succ, eb, List.all_append, al] <;> rfl
        | false => exact iteT ⟨.int i, rfl, .int i, rfl, fun dd H2 e nd xd => qi i eb al dd H2 ((k1.trans k2).trans (Ks.ex e)) (tab_ex t2 e) xd⟩
      · obtain ⟨y2, y3, rfl, ks, tg, al⟩ := w
        rw [hlen, List.take_length] at al
        exact qn al G ks tg
end
end K04

set_option maxHeartbeats 4000000
namespace K04
open PySem PySem.Spec PyProof.Rows L2 Hd Evl
def okS : Option (List Bool) → Bool
  | none => false
  | some bs => bs.all id
section
variable {CX : CXT} {P : Program} {w : World} {K : PySem.W.Frag} {mg : Str → Option Value} {base : Heap} {CB CN CS : Addr}
def spIsStory (K : PySem.W.Frag) (Pt : Addr) : Sp := fun vs H Q E => ∃ a n k d p c v o, vs = [.ref a, v] ∧ HouseAt H a n k d p c ∧ StoryV K H d p v o ∧ GxR.TabG H Pt ∧ ∀ H2, Ks K H H2 → GxR.TabG H2 Pt → Q (.bl (okS o)) H2
theorem first_bad : ∀ {bs : List Bool}, bs.all id = false → ∃ i : Nat, bs[i]? = some false ∧ (bs.take i).all id = true
  | [], h => by cases h
  | false :: r, _ => ⟨0, rfl, rfl⟩
  | true :: r, h => by
    obtain ⟨i, h1, h2⟩ := first_bad (bs := r) h
    exact ⟨i + 1, h1, h2⟩
theorem ok_is_story {f fC fS Pt : Addr} {fd fdC fdS : FuncData} (F : FnP K "is_story" s_is_story f fd) (TC : Fn P w K mg base (L2.CX P w) 3 "check_house" ["house"] (spCheck K CB) fC fdC) (TS : Fn P w K mg base (L2.CX P w) 6 "check_story" ["house", "story"] (spStory K CS Pt) fS fdS) (mS : mg "BadStory" = some (.ref CS))
    (x1 : PySem.W.exmOne K (.ref CS) (.ref CS) = some true) : FnOk P w K mg base (L2.CX P w) 7 f fd ["house", "value"] (spIsStory K Pt) := by
  refine F.ok (CX := L2.CX P w) sc_is_story (fun vs H Q E h => ?_) (fun cdv A outer s H vs Q E hr h => ?_)
  · obtain ⟨a, n, k, d, p, c, v, o, rfl, _⟩ := h
    rfl
  · obtain ⟨a, n, k, d, p, c, v, o, rfl, h, hv, hT, q⟩ := h
    let X0 : Cx := cxOf (L2.CX P w) P w K mg base n_is_story "is_story" (defScope s_is_story) f cdv A outer s H E
    refine ⟨_, (pss_cons (ps_expr (pe_call TC.G (hr.mono (by decide)) (by rfl) TC.m TC.k TC.b .nil (passX (E := E) rfl rfl rfl rfl) (pa_cons (pv 0) pa_nil)))
      (pss_cons (ps_tries (X := X0) (tb := fun W D σ H => ∃ Ech : XK, (∀ cls d σ' H', Ech cls d H' → W cls d σ' H') ∧ tCall (spStory K CS Pt) [] Ech (tCons (tVar 0) (tCons (tVar 1) tNil)) σ H fun _ H1 => D.nx σ H1) rfl rfl (takes_of (E := E) rfl rfl rfl rfl)
          (fun W pn xe tk _ => ⟨fun pins s' σ H' D I h' => ?_⟩) (Clauses.bare ⟨by rfl, by decide, .inl mS⟩ (fun a oe k d pn z _ => pss_one (ps_ret pe_bl)) .nil))
      (pss_one (ps_ret pe_bl)))), ?_⟩
    · obtain ⟨Ech, hW, h1⟩ := h'
      exact (pss_one (ps_expr (pe_call TS.G hr (by rfl) TS.m TS.k TS.b .nil (passes_call tk hW) (pa_cons (pv 0) (pa_cons (pv 1) pa_nil))))).run pins s' σ H' D I h1
    · refine ⟨.ref a, rfl, .ref a, none, rfl, h.wr, fun _ => ?_, (fun x e => by cases e)⟩
      refine ⟨fun cls _ H' => cls = .ref CS ∧ Q (.bl false) H', fun cls d' σ' H' he => ?_, .ref a, rfl, v, rfl, a, n, k, d, p, c, v, o, rfl, h, hv, hT, fun eo dd H' ks tg _ => ⟨rfl, ?_⟩, fun bs eo => ⟨fun al H2 ks tg => ?_, fun i hi hal dd H' ks tg _ => ⟨rfl, ?_⟩⟩⟩
      · obtain ⟨rfl, hq⟩ := he
        exact ⟨true, x1, fun _ a _ => hq, fun z => by cases z⟩
      · rw [eo] at q
        exact q H' ks tg
      · rw [eo] at q
        have e : okS (some bs) = true := al
        rw [e] at q
        exact q H2 ks tg
      · rw [eo] at q
        have e : okS (some bs) = false := by
          show bs.all id = false
          rw [List.all_eq_false]
          exact ⟨false, List.mem_of_getElem? hi, by decide⟩
        rw [e] at q
        exact q H' ks tg
end
end K04

set_option maxHeartbeats 4000000
namespace K04
open PySem PySem.Spec PyProof.Rows L2 Hd Evl
/-! ### moments counted -/
/-- a session whose story has l moments -/
def SessL (H : Hp) (v : V) (l : Nat) : Prop := ∃ t dp u us, v = .ref t ∧ H t = some (.tup [dp, .ref u]) ∧ H u = some (.tup us) ∧ us.length = l
def rLenK (K : PySem.W.Frag) : List V → Hp → VK → Prop := fun xs H Q => ∃ p ys, xs = [.ref p] ∧ (SqL K H p ys ∨ SqT K H p ys) ∧ Q (.int ys.length) H
section
variable {CX : CXT} {P : Program} {w : World} {K : PySem.W.Frag} {mg : Str → Option Value} {base : Heap} {CB CN CS : Addr}
def spMany (K : PySem.W.Frag) (Pt : Addr) : Sp := fun vs H Q _ => ∃ a ss ls, vs = [.ref a] ∧ H a = some (.tup ss) ∧ Paired (SessL H) ss ls ∧ ls.sum ≤ 1000000 ∧ GxR.TabG H Pt ∧ ∀ H2, Ks K H H2 → GxR.TabG H2 Pt → Q (.int (ls.sum : Nat)) H2
theorem sum_take : ∀ (ls : List Nat) (i : Nat), (ls.take i).sum ≤ ls.sum
  | [], i => by simp
  | x :: r, 0 => by simp
  | x :: r, i + 1 => by
    have := sum_take r i
    simp only [List.take_succ_cons, List.sum_cons]
    omega
theorem ok_many {f c Pt : Addr} {fd : FuncData} (F : FnP K "moment_count" s_moment_count f fd) (B : Blt mg) (CA : CodeAt K mg base fd c Pt) : FnOk P w K mg base CX 2 f fd ["life"] (spMany K Pt) := by
  obtain ⟨oc, od, dV, kV, doc, pm, an, cdv, ct, osl, rfl, lk, hcd, _, _⟩ := F.ex
  obtain rfl : cdv = .ref c := CA.e
  refine fn_of (k := 1) lk hcd sc_moment_count (fun vs H Q E h => ?_) (fun A outer s H vs Q E hr h => ?_)
  · obtain ⟨a, ss, ls, rfl, _⟩ := h
    rfl
  · obtain ⟨a, ss, ls, rfl, ha, hp, hz, hT, q⟩ := h
    refine ⟨_, pss_one (ps_ret (pe_sumG (own := [("session", 1)]) (g := gName 1) (k := 0) hr (by rfl) B.sum CA.tb rfl (genOk_by (by rfl)) sc_moment_count.nd (pi_tup (pv 0)) (fun A s H code fp pn r => pg_name (i := 1) sc_moment_count.nd rfl (Or.inl rfl)) (fun A s H code fp pn r => pts_nil)
      (fun A s H code fp pn r => pe_callB (call_len_seq : CallR _ _ (rLenK K)) (by rfl) B.len (by decide +kernel) (pa_cons (pe_ix (ix_tup : IxR _ (rIxT K)) (pv 1) pe_int (fun _ _ => rfl)) pa_nil)))), ?_⟩
    have hlen := Paired.length hp
    refine ⟨.ref a, rfl, a, rfl, ⟨ss, SqT.of ha⟩, hT, fun H2 tb => gt_tup (xs := ss) (fun (c : Int) i H' => c = ((ls.take i).sum : Nat) ∧ Ks K H H' ∧ GxR.TabG H' Pt) (fun _ i H' _ w => SqT.of (w.2.1.t _ _ ha)) (fun c i x H' hx w => ?_) (fun c H' w => ?_) (c0 := 0) ⟨rfl, Ks.tab CA.sk hT tb, tb.1⟩⟩
    · obtain ⟨rfl, ks, tg⟩ := w
      obtain ⟨l, el, t, dp, u, us, rfl, h1, h2, h3⟩ := paired_at hp hx
      have e : (ls.take (i + 1)).sum = (ls.take i).sum + l := by
        rw [List.take_succ, el, List.sum_append] <;> simp
      have b1 := sum_take ls (i + 1)
      rw [e] at b1
      refine ⟨rfl, yes_go ⟨.ref t, rfl, t, _, _, .ref u, rfl, rfl, SqT.of (ks.t _ _ h1), atI_nat (j := 1) rfl, u, us, rfl, .inr (SqT.of (ks.t _ _ h2)), us.length, rfl, ⟨by omega, by omega⟩, ⟨by omega, by omega⟩, ?_, ks, tg⟩⟩
      rw [e, h3]
      omega
    · obtain ⟨rfl, ks, tg⟩ := w
      rw [hlen, List.take_length]
      exact q H' ks tg
end
end K04

set_option maxHeartbeats 4000000
namespace K04
open PySem PySem.Spec PyProof.Rows L2 Hd Evl
/-! ### coins -/
inductive CoinV (K : PySem.W.Frag) (H : Hp) (m : Nat) : V → Bool → Prop
  | mk {v : V} {s : String} (h : KindV K H v s) : CoinV K H m v (isNum v 0 ((m : Int) - 1))
theorem CoinV.kw {K : PySem.W.Frag} {H H' : Hp} {m : Nat} {v : V} {b : Bool} (h : CoinV K H m v b) (e : Kw H H') : CoinV K H' m v b := by
  cases h with
  | mk h => exact .mk (h.kw e)
theorem CoinV.ks {S : Addr → Prop} {K : PySem.W.Frag} {H H' : Hp} {m : Nat} {v : V} {b : Bool} (h : CoinV K H m v b) (e : Kl S H H') : CoinV K H' m v b := h.kw e.w
/-- m coins of a house's row, each one of t; none: no such tuple -/
inductive CoinsV (K : PySem.W.Frag) (H : Hp) (t m : Nat) : V → Option (List Bool) → Prop
  | out {v : V} {s : String} (h : KindV K H v s) (hs : isK s "tuple" = false) : CoinsV K H t m v none
  | len {a : Addr} {xs : List V} (h : H a = some (.tup xs)) (hl : xs.length ≠ m) : CoinsV K H t m (.ref a) none
  | tup {a : Addr} {xs : List V} {bs : List Bool} (h : H a = some (.tup xs)) (hl : xs.length = m) (hb : Paired (CoinV K H t) xs bs) : CoinsV K H t m (.ref a) (some bs)
theorem CoinsV.kw {K : PySem.W.Frag} {H H' : Hp} {t m : Nat} {v : V} {o : Option (List Bool)} (h : CoinsV K H t m v o) (e : Kw H H') : CoinsV K H' t m v o := by
  cases h with
  | out h hs => exact .out (h.kw e) hs
  | len h hl => exact .len (e.t _ _ h) hl
  | tup h hl hb => exact .tup (e.t _ _ h) hl (paired_imp (fun _ _ q => q.kw e) hb)
section
variable {CX : CXT} {P : Program} {w : World} {K : PySem.W.Frag} {mg : Str → Option Value} {base : Heap} {CB CN CS : Addr}
def spCoins (K : PySem.W.Frag) (CS Pt : Addr) : Sp := fun vs H Q E => ∃ a n k d p c l ss ls v o, vs = [.ref a, .ref l, v] ∧ HouseAt H a n k d p c ∧ H l = some (.tup ss) ∧ Paired (SessL H) ss ls ∧ ls.sum ≤ 1000000 ∧ CoinsV K H (nck n k) ls.sum v o ∧ GxR.TabG H Pt ∧ (o = none → Out K CS "index" Pt E H .non) ∧
  ∀ bs, o = some bs → (bs.all id = true → ∀ H2, Ks K H H2 → GxR.TabG H2 Pt → Q .non H2) ∧ ∀ i : Nat, bs[i]? = some false → (bs.take i).all id = true → Out K CS "index" Pt E H (.int i)
theorem ok_check_coins {f fM fI Pt : Addr} {fd fdM fdI : FuncData} (F : FnP K "check_coins" s_check_coins f fd) (B : Blt mg) (TM : Fn P w K mg base CX0 2 "moment_count" ["life"] (spMany K Pt) fM fdM) (TI : Fn P w K mg base CX0 2 "is_coin" ["house", "value"] (spIsCoin K) fI fdI) (ES : ErrF P w K mg base "BadCoins" "index" CS) :
    FnOk P w K mg base (L2.CX P w) 3 f fd ["house", "life", "coins"] (spCoins K CS Pt) := by
  refine F.ok (CX := L2.CX P w) sc_check_coins (fun vs H Q E h => ?_) (fun cdv A outer s H vs Q E hr h => ?_)
  · obtain ⟨a, n, k, d, p, c, l, ss, ls, v, o, rfl, _⟩ := h
    rfl
  · obtain ⟨a, n, k, d, p, c, l, ss, ls, v, o, rfl, h, hl, hss, hz, hv, hT, q1, q2⟩ := h
    refine ⟨_, (pss_cons (ps_if (PW.pt (pw_or (pt_not (pt_val (pe_callB call_isS (by rfl) B.isinstance (by decide +kernel) (pa_cons (pv 2) (pa_cons (pe_ty "tuple" (by rfl) B.tuple (by decide +kernel)) pa_nil))))) (pw_or1 (pt_cmpR op_ne (pe_callB call_len_seq (by rfl) B.len (by decide +kernel) (pa_cons (pv 2) pa_nil)) (pe_call TM.G hr (by rfl) TM.m TM.k TM.b .nil pass0 (pa_cons (pv 1) pa_nil)) (nomark _))))) (pss_one (ps_raiseF ES rfl hr (takes_of (E := E) rfl rfl rfl rfl) (by rfl) (pa_cons pe_non pa_nil))) pss_nil)
    (pss_one (ps_for (passes_of rfl) rfl (pi_enumT (by rfl) B.enumerate (pa_cons (pv 2) pa_nil)) (pg_tup rfl (pgs_cons (pg_name (i := 3) sc_check_coins.nd rfl (Or.inl rfl)) (pgs_cons (pg_name (i := 4) sc_check_coins.nd rfl (Or.inl rfl)) pgs_nil)))
      (pss_one (ps_if (pt_not (pt_val (pe_call TI.G hr (by rfl) TI.m TI.k TI.b .nil pass0 (pa_cons (pv 0) (pa_cons (pv 4) pa_nil))))) (pss_one (ps_raiseF ES rfl hr (takes_of (E := E) rfl rfl rfl rfl) (by rfl) (pa_cons (pv 3) pa_nil))) pss_nil))))), ?_⟩
    cases hv with
    | @out v sk hk e =>
      refine ⟨_, rfl, _, _, "tuple", _, rfl, hk.ty, hk.isT, _, rfl, ?_⟩
      rw [e]
      exact iteT (iteT ⟨.non, rfl, fun dd H2 e n x => q1 rfl dd H2 (Ks.ex e) (tab_ex hT e) x⟩)
    | @len t xs ht hne =>
      refine ⟨_, rfl, _, _, "tuple", _, rfl, (KindV.tup ht).ty, (KindV.tup (K := K) ht).isT, _, rfl, iteF ?_⟩
      refine ⟨_, rfl, t, xs, rfl, .inr (SqT.of ht), .ref l, rfl, l, ss, ls, rfl, hl, hss, hz, hT, fun H2 ks tg => ⟨rfl, _, rfl, ?_⟩⟩
      have e : (!decide (V.int (xs.length : Int) = V.int (ls.sum : Nat))) = true := by
        rw [decide_eq_false (fun z => hne (by injection z with z; omega))] <;> rfl
      rw [e]
      exact iteT ⟨.non, rfl, fun dd H3 e n x => q1 rfl dd H3 (ks.trans (Ks.ex e)) (tab_ex tg e) x⟩
    | @tup t xs bs ht hx hb =>
      refine ⟨_, rfl, _, _, "tuple", _, rfl, (KindV.tup ht).ty, (KindV.tup (K := K) ht).isT, _, rfl, iteF ?_⟩
      refine ⟨_, rfl, t, xs, rfl, .inr (SqT.of ht), .ref l, rfl, l, ss, ls, rfl, hl, hss, hz, hT, fun H1 ks1 tg1 => ⟨rfl, _, rfl, ?_⟩⟩
      rw [hx, decide_eq_true rfl]
      obtain ⟨qn, qi⟩ := q2 bs rfl
      have hlen := Paired.length hb
      refine iteF ⟨.ref t, rfl, t, xs, rfl, SqT.of (ks1.t _ _ ht), ?_⟩
      refine for_enumT (xs := xs) (fun i σ G => ∃ y3 y4 : Option V, σ = [some (.ref a), some (.ref l), some (.ref t), y3, y4] ∧ Ks K H G ∧ GxR.TabG G Pt ∧ (bs.take i).all id = true) ⟨none, none, rfl, ks1, tg1, rfl⟩ (fun i σ G _ w => by obtain ⟨_, _, _, ks, _⟩ := w; exact SqT.of (ks.t _ _ ht)) (fun i x σ G T2 hx w nT => ?_) (fun σ G w => ?_)
      · obtain ⟨y3, y4, rfl, ks, tg, al⟩ := w
        obtain ⟨b, eb, cv⟩ := paired_at hb hx
        have e1 := Ex.new (o := .tup [V.int (i : Nat), x]) nT
        have k1 := ks.trans (Ks.ex e1)
        have cv' := cv.ks k1
        obtain ⟨sk, kx⟩ : ∃ sk, KindV K (upd G T2 (.tup [V.int (i : Nat), x])) x sk := by
          cases cv' with
          | mk h => exact ⟨_, h⟩
        have eb' : isNum x 0 ((nck n k : Nat) - 1) = b := by cases cv'; rfl
        refine ⟨T2, _, rfl, SqT.of upd_same, rfl, _, _, rfl, _, _, rfl, rfl, ?_⟩
        refine ⟨.ref a, rfl, x, rfl, a, n, k, d, p, c, x, sk, rfl, h.ks k1, kx, _, rfl, ?_⟩
        rw [eb']
        cases b with
        | true =>
          refine iteF ⟨_, _, rfl, k1, tab_ex tg e1, ?_⟩
          rw [List.take_succ, eb, List.all_append, al] <;> rfl
        | false => exact iteT ⟨.int i, rfl, .int i, rfl, fun dd H2 e nd xd => qi i eb al dd H2 (k1.trans (Ks.ex e)) (tab_ex (tab_ex tg e1) e) xd⟩
      · obtain ⟨y3, y4, rfl, ks, tg, al⟩ := w
        rw [hlen, List.take_length] at al
        exact qn al G ks tg
end
end K04

set_option maxHeartbeats 4000000
namespace K04
open PySem PySem.Spec PyProof.Rows L2 Hd Evl
section
variable {CX : CXT} {P : Program} {w : World} {K : PySem.W.Frag} {mg : Str → Option Value} {base : Heap} {CB CN CD CP : Addr}
/-! ### check_drawer, check_page -/
def spChk (K : PySem.W.Frag) (top : Nat → Nat → Nat) (C : Addr) : Sp := fun vs H Q E => ∃ a n k d p c v s, vs = [.ref a, v] ∧ HouseAt H a n k d p c ∧ KindV K H v s ∧ (isNum v 0 ((top d p : Nat) - 1) = true → Q .non H) ∧ (isNum v 0 ((top d p : Nat) - 1) = false → E (.ref C) none H)
theorem ok_check_drawer {f fD : Addr} {fd fdD : FuncData} (F : FnP K "check_drawer" s_check_drawer f fd) (TD : Fn P w K mg base CX0 2 "is_drawer" ["house", "value"] (spDrawer K) fD fdD) (N : ErrP K mg "BadDrawer" CD) : FnOk P w K mg base (L2.CX P w) 3 f fd ["house", "drawer"] (spChk K (fun d _ => d) CD) := by
  refine F.ok (CX := L2.CX P w) sc_check_drawer (fun vs H Q E h => ?_) (fun cdv A outer s H vs Q E hr h => ?_)
  · obtain ⟨a, n, k, d, p, c, v, s, rfl, _⟩ := h
    rfl
  · obtain ⟨a, n, k, d, p, c, v, sk, rfl, h, hk, q1, q2⟩ := h
    refine ⟨_, pss_one (ps_if (pt_not (pt_val (pe_call TD.G hr (by rfl) TD.m TD.k TD.b .nil pass0 (pa_cons (pv 0) (pa_cons (pv 1) pa_nil))))) (pss_one (ps_raiseP N rfl (takes_of (E := E) rfl rfl rfl rfl) (by rfl))) pss_nil), ?_⟩
    refine ⟨.ref a, rfl, v, rfl, a, n, k, d, p, c, v, sk, rfl, h, hk, _, rfl, ?_⟩
    cases e : isNum v 0 ((d : Int) - 1) with
    | true => exact iteF (q1 e)
    | false => exact iteT (q2 e)
theorem ok_check_page {f fD : Addr} {fd fdD : FuncData} (F : FnP K "check_page" s_check_page f fd) (TD : Fn P w K mg base CX0 2 "is_page" ["house", "value"] (spPage K) fD fdD) (N : ErrP K mg "BadPage" CP) : FnOk P w K mg base (L2.CX P w) 3 f fd ["house", "page"] (spChk K (fun _ p => p) CP) := by
  refine F.ok (CX := L2.CX P w) sc_check_page (fun vs H Q E h => ?_) (fun cdv A outer s H vs Q E hr h => ?_)
  · obtain ⟨a, n, k, d, p, c, v, s, rfl, _⟩ := h
    rfl
  · obtain ⟨a, n, k, d, p, c, v, sk, rfl, h, hk, q1, q2⟩ := h
    refine ⟨_, pss_one (ps_if (pt_not (pt_val (pe_call TD.G hr (by rfl) TD.m TD.k TD.b .nil pass0 (pa_cons (pv 0) (pa_cons (pv 1) pa_nil))))) (pss_one (ps_raiseP N rfl (takes_of (E := E) rfl rfl rfl rfl) (by rfl))) pss_nil), ?_⟩
    refine ⟨.ref a, rfl, v, rfl, a, n, k, d, p, c, v, sk, rfl, h, hk, _, rfl, ?_⟩
    cases e : isNum v 0 ((p : Int) - 1) with
    | true => exact iteF (q1 e)
    | false => exact iteT (q2 e)
end
end K04

set_option maxHeartbeats 4000000
namespace K04
open PySem PySem.Spec PyProof.Rows L2 Hd Evl
def waysL : List Str := ["true", "free", "idle", "kept", "need", "lower"]
def waysV : List V := waysL.map V.str
theorem inV_str (x : Str) : ∀ l : List Str, inV (.str x) (l.map V.str) = l.contains x
  | [] => rfl
  | y :: r => by
    have ih := inV_str x r
    unfold inV at ih ⊢
    rw [List.map_cons, List.any_cons, ih, List.contains_cons]
    congr 1
    show (y == x) = (x == y)
    exact Bool.eq_iff_iff.mpr ⟨fun h => by rw [beq_iff_eq] at h ⊢; exact h.symm, fun h => by rw [beq_iff_eq] at h ⊢; exact h.symm⟩
section
variable {CX : CXT} {P : Program} {w : World} {K : PySem.W.Frag} {mg : Str → Option Value} {base : Heap} {CB CN CD CP : Addr}
def wayOk : V → Bool
  | .str x => waysL.contains x
  | _ => false
def spWay (K : PySem.W.Frag) (CB : Addr) : Sp := fun vs H Q E => ∃ v s, vs = [v] ∧ KindV K H v s ∧ (wayOk v = true → Q .non H) ∧ (wayOk v = false → Refuses CB E H "way")
theorem ok_check_way {f aW : Addr} {fd : FuncData} (F : FnP K "check_way" s_check_way f fd) (B : Blt mg) (hW : mg "WAYS" = some (.ref aW)) (hS : ∀ H, SqT K H aW waysV) (EB : ErrF P w K mg base "BadHouse" "word" CB) : FnOk P w K mg base (L2.CX P w) 3 f fd ["way"] (spWay K CB) := by
  refine F.ok (CX := L2.CX P w) sc_check_way (fun vs H Q E h => ?_) (fun cdv A outer s H vs Q E hr h => ?_)
  · obtain ⟨v, s, rfl, _⟩ := h
    rfl
  · obtain ⟨v, sk, rfl, hk, q1, q2⟩ := h
    refine ⟨_, (pss_one (ps_if (PW.pt (pw_or (pt_not (pt_val (pe_callB call_isS (by rfl) B.isinstance (by decide +kernel) (pa_cons (pv 0) (pa_cons (pe_ty "str" (by rfl) B.str (by decide +kernel)) pa_nil))))) (pw_or1 (pt_cmpR op_notIn_seq (pv 0) (pe_glob (v := .ref aW) rfl hW rfl) (by rfl))))) (pss_one (ps_raiseF EB rfl hr (takes_of (E := E) rfl rfl rfl rfl) (by rfl) (pa_cons pe_str pa_nil))) pss_nil)), ?_⟩
    refine ⟨v, rfl, v, sk, "str", _, rfl, hk.ty, hk.isS, _, rfl, ?_⟩
    cases hk with
    | non => exact iteT (iteT ⟨_, rfl, fun dd H2 e n x => q2 rfl dd H2 e n x⟩)
    | bl b => exact iteT (iteT ⟨_, rfl, fun dd H2 e n x => q2 rfl dd H2 e n x⟩)
    | int i => exact iteT (iteT ⟨_, rfl, fun dd H2 e n x => q2 rfl dd H2 e n x⟩)
    | lst h => exact iteT (iteT ⟨_, rfl, fun dd H2 e n x => q2 rfl dd H2 e n x⟩)
    | tup h => exact iteT (iteT ⟨_, rfl, fun dd H2 e n x => q2 rfl dd H2 e n x⟩)
    | str x =>
      refine iteF ⟨.str x, rfl, aW, waysV, rfl, .inr (hS H), rfl, rfl, _, rfl, ?_⟩
      have e : inV (.str x) waysV = wayOk (.str x) := inV_str x waysL
      show (if (!inV (.str x) waysV) = true then _ else _)
      rw [e]
      cases ew : wayOk (.str x) with
      | true => exact iteF (q1 ew)
      | false => exact iteT ⟨_, rfl, fun dd H2 e n y => q2 ew dd H2 e n y⟩
end
end K04

set_option maxHeartbeats 4000000
namespace K04
open PySem PySem.Spec PyProof.Rows L2 Hd Evl
/-! ### sessions -/
/-- whether the deeds' drawers are at most u -/
def DeedLow (H : Hp) (u : Int) (e : V) (z : Bool) : Prop := ∃ t y ys, e = .ref t ∧ H t = some (.tup (.int y :: ys)) ∧ z = decide (y ≤ u)
def MomentLow (H : Hp) (u : Int) (m : V) (c : Bool) : Prop := ∃ t ds cs, m = .ref t ∧ H t = some (.tup ds) ∧ ds.length ≤ 6 ∧ c = cs.all id ∧ Paired (DeedLow H u) ds cs
def StoryLow (H : Hp) (u : Int) (v : V) (b : Bool) : Prop := ∃ t ms bs, v = .ref t ∧ H t = some (.tup ms) ∧ b = bs.all id ∧ Paired (MomentLow H u) ms bs
inductive SessV (K : PySem.W.Frag) (H : Hp) (d p : Nat) : V → Bool → Prop
  | out {v : V} {s : String} (h : KindV K H v s) (hs : isK s "tuple" = false) : SessV K H d p v false
  | len {a : Addr} {xs : List V} (h : H a = some (.tup xs)) (hl : xs.length ≠ 2) : SessV K H d p (.ref a) false
  | bad {a : Addr} {u v : V} {s : String} {o : Option (List Bool)} (h : H a = some (.tup [u, v])) (ku : KindV K H u s) (sv : StoryV K H d p v o) (hb : (isNum u 0 ((d : Int) - 1) && okS o) = false) : SessV K H d p (.ref a) false
  | good {a : Addr} {u : Int} {v : V} {o : Option (List Bool)} {b : Bool} (h : H a = some (.tup [.int u, v])) (hu : isNum (.int u) 0 ((d : Int) - 1) = true) (sv : StoryV K H d p v o) (ho : okS o = true) (lo : StoryLow H u v b) : SessV K H d p (.ref a) b
section
variable {CX : CXT} {P : Program} {w : World} {K : PySem.W.Frag} {mg : Str → Option Value} {base : Heap} {CB CN CD CP : Addr}
def spSession (K : PySem.W.Frag) (Pm Ps : Addr) : Sp := fun vs H Q _ => ∃ a n k d p c v b, vs = [.ref a, v] ∧ HouseAt H a n k d p c ∧ SessV K H d p v b ∧ GxR.TabG H Pm ∧ GxR.TabG H Ps ∧ ∀ H2, Ks K H H2 → Q (.bl b) H2
theorem ok_is_session {f fD fS c Pm Ps : Addr} {fd fdD fdS : FuncData} (F : FnP K "is_session" s_is_session f fd) (B : Blt mg) (hall : mg "all" = none) (CA : CodeAt K mg base fd c Ps) (TD : Fn P w K mg base CX0 2 "is_drawer" ["house", "value"] (spDrawer K) fD fdD) (TS : Fn P w K mg base (L2.CX P w) 7 "is_story" ["house", "value"] (spIsStory K Pm) fS fdS) :
    FnOk P w K mg base (L2.CX P w) 8 f fd ["house", "value"] (spSession K Pm Ps) := by
  obtain ⟨oc, od, dV, kV, doc, pm, an, cdv, ct, osl, rfl, lk, hcd, _, _⟩ := F.ex
  obtain rfl : cdv = .ref c := CA.e
  refine fn_of (k := 7) lk hcd sc_is_session (fun vs H Q E h => ?_) (fun A outer s H vs Q E hr h => ?_)
  · obtain ⟨a, n, k, d, p, c, v, b, rfl, _⟩ := h
    rfl
  · obtain ⟨a, n, k, d, p, c', v, b, rfl, h, hv, hT, hT2, q⟩ := h
    refine ⟨_, (pss_cons (ps_if (PW.pt (pw_or (pt_not (pt_val (pe_callB call_isS (by rfl) B.isinstance (by decide +kernel) (pa_cons (pv 1) (pa_cons (pe_ty "tuple" (by rfl) B.tuple (by decide +kernel)) pa_nil))))) (pw_or1 (pt_cmpR op_ne (pe_callB call_len_seq (by rfl) B.len (by decide +kernel) (pa_cons (pv 1) pa_nil)) pe_int (nomark _))))) (pss_one (ps_ret pe_bl)) pss_nil)
    (pss_cons (ps_asg (pv 1) (pg_tup rfl (pgs_cons (pg_name (i := 2) sc_is_session.nd rfl (Or.inr rfl)) (pgs_cons (pg_name (i := 3) sc_is_session.nd rfl (Or.inl rfl)) pgs_nil))))
    (pss_cons (ps_if (PW.pt (pw_or (pt_not (pt_val (pe_call TD.G (hr.mono (by decide)) (by rfl) TD.m TD.k TD.b .nil pass0 (pa_cons (pv 0) (pa_cons (pv 2) pa_nil))))) (pw_or1 (pt_not (pt_val (pe_call TS.G hr (by rfl) TS.m TS.k TS.b .nil (passX (E := E) rfl rfl rfl rfl) (pa_cons (pv 0) (pa_cons (pv 3) pa_nil)))))))) (pss_one (ps_ret pe_bl)) pss_nil)
    (pss_one (ps_ret (pe_allG2 (own := [("moment", 4), ("deed", 5)]) (vs2 := [5]) (g := gName 4) (g2 := gName 5) (k := 6) hr (by rfl) hall CA.tb rfl (genOk_by (by rfl)) sc_is_session.nd (pi_tup (pv 3)) (fun A s H code fp pn r => pg_name (i := 4) sc_is_session.nd rfl (Or.inl rfl)) (fun A s H code fp pn r => pts_nil)
      (fun A s H code fp pn r => pe_cmpR op_le (pe_ix (ix_tup : IxR _ (rIxT K)) (pv 5) pe_int (fun _ _ => rfl)) (pv 2) (nomark _)) (fun A s H code fp pn r => (pi_tup (pv 4) : PI _ _ _ (iTup K (tVar 4)))) (fun A s H code fp pn r => pg_name (i := 5) sc_is_session.nd rfl (Or.inl rfl)) (fun A s H code fp pn r => pts_nil) (fun σ => by show (((σ.set 5 none).set 5 none).set 4 none) = _; rw [List.set_set] <;> rfl))))))), ?_⟩
    cases hv with
    | @out v sk hk e =>
      refine ⟨_, rfl, _, _, "tuple", _, rfl, hk.ty, hk.isT, _, rfl, ?_⟩
      rw [e]
      exact iteT (iteT (q H Ks.refl))
    | @len t xs ht hl =>
      refine ⟨_, rfl, _, _, "tuple", _, rfl, (KindV.tup ht).ty, (KindV.tup (K := K) ht).isT, _, rfl, iteF ?_⟩
      refine ⟨_, rfl, t, xs, rfl, .inr (SqT.of ht), rfl, _, rfl, ?_⟩
      have e : (!decide (V.int (xs.length : Int) = V.int 2)) = true := by
        rw [decide_eq_false (fun z => hl (by injection z with z; omega))] <;> rfl
      rw [e]
      exact iteT (q H Ks.refl)
    | @bad t u v sk o ht ku sv hb =>
      refine ⟨_, rfl, _, _, "tuple", _, rfl, (KindV.tup ht).ty, (KindV.tup (K := K) ht).isT, _, rfl, iteF ?_⟩
      refine ⟨_, rfl, t, _, rfl, .inr (SqT.of ht), rfl, _, rfl, iteF ⟨_, rfl, t, _, rfl, SqT.of ht, rfl, _, _, rfl, _, _, rfl, rfl, ?_⟩⟩
      refine ⟨.ref a, rfl, u, rfl, a, n, k, d, p, c', u, sk, rfl, h, ku, _, rfl, ?_⟩
      cases eu : isNum u 0 ((d : Int) - 1) with
      | false => exact iteT (iteT (q H Ks.refl))
      | true =>
        rw [eu, Bool.true_and] at hb
        refine iteF ⟨.ref a, rfl, v, rfl, a, n, k, d, p, c', v, o, rfl, h, sv, hT, fun H2 ks tg => ⟨_, rfl, ?_⟩⟩
        rw [hb]
        exact iteT (q H2 ks)
    | @good t u v o b ht hu sv ho lo =>
      refine ⟨_, rfl, _, _, "tuple", _, rfl, (KindV.tup ht).ty, (KindV.tup (K := K) ht).isT, _, rfl, iteF ?_⟩
      refine ⟨_, rfl, t, _, rfl, .inr (SqT.of ht), rfl, _, rfl, iteF ⟨_, rfl, t, _, rfl, SqT.of ht, rfl, _, _, rfl, _, _, rfl, rfl, ?_⟩⟩
      refine ⟨.ref a, rfl, .int u, rfl, a, n, k, d, p, c', .int u, _, rfl, h, .int u, _, rfl, ?_⟩
      rw [hu]
      refine iteF ⟨.ref a, rfl, v, rfl, a, n, k, d, p, c', v, o, rfl, h, sv, hT, fun H2 ks tg => ⟨_, rfl, ?_⟩⟩
      rw [ho]
      obtain ⟨t2, ms, bs, rfl, hm, rfl, hp⟩ := lo
      refine iteF ⟨.ref t2, rfl, t2, rfl, ⟨ms, SqT.of (ks.t _ _ hm)⟩, ks.g _ hT2, fun H3 tb => ?_⟩
      have k3 := ks.trans (Ks.tab CA.sk (ks.g _ hT2) tb)
      have hlen := Paired.length hp
      refine gt_tup2 (xs := ms) (k2 := 4) (g := gName 4) (g2 := gName 5) (K := K) 6 (fun _ i G => Ks K H G ∧ (bs.take i).all id = true) (fun _ i j G => Ks K H G ∧ (bs.take i).all id = true ∧ ∃ t ds cs, ms[i]? = some (.ref t) ∧ H t = some (.tup ds) ∧ Paired (DeedLow H u) ds cs ∧ bs[i]? = some (cs.all id) ∧ (cs.take j).all id = true)
        (fun _ i G _ w => SqT.of (w.1.t _ _ hm)) (fun _ i x G hx w => ?_) (fun x σ G Q1 Q2 hq h1 => hq _ _ h1) (fun _ G w => ?_) (c0 := ()) ⟨k3, rfl⟩
      · obtain ⟨kG, al⟩ := w
        obtain ⟨bi, eb, t3, ds, cs, rfl, hd, hl6, rfl, hc⟩ := paired_at hp hx
        refine ⟨rfl, t3, ds, rfl, SqT.of (kG.t _ _ hd), hl6, ⟨kG, al, t3, ds, cs, hx, hd, hc, eb, rfl⟩, fun _ j G' w => ?_, fun _ G' w => ?_, fun _ j y G' hy w => ?_⟩
        · exact SqT.of (w.1.t _ _ hd)
        · obtain ⟨kG', al', t4, ds', cs', hx', hd', hc', eb', al2⟩ := w
          rw [hx] at hx'
          cases hx'
          rw [hd] at hd'
          cases hd'
          have l1 := Paired.length hc'
          rw [l1, List.take_length] at al2
          refine ⟨kG', ?_⟩
          rw [List.take_succ, eb', List.all_append, al', al2] <;> rfl
        · obtain ⟨kG', al', t4, ds', cs', hx', hd', hc', eb', al2⟩ := w
          rw [hx] at hx'
          cases hx'
          rw [hd] at hd'
          cases hd'
          obtain ⟨z, ez, t5, y0, ys0, rfl, h5, rfl⟩ := paired_at hc' hy
          refine ⟨rfl, t_yes ⟨.ref t5, rfl, t5, _, _, .int y0, rfl, rfl, SqT.of (kG'.t _ _ h5), atI_nat (j := 0) rfl, .int u, rfl, _, _, rfl, rfl, _, rfl, fun z => ?_, fun z => ?_⟩⟩
          · refine ⟨kG', al', t3, ds, cs', hx, hd, hc', eb', ?_⟩
            rw [List.take_succ, ez, z, List.all_append, al2] <;> rfl
          · have f1 : cs'.all id = false := by
              rw [List.all_eq_false]
              exact ⟨_, List.mem_of_getElem? ez, by rw [z]; decide⟩
            have f2 : bs.all id = false := by
              rw [List.all_eq_false]
              exact ⟨_, List.mem_of_getElem? eb', by rw [f1]; decide⟩
            rw [f2] at q
            exact q G' kG'
      · obtain ⟨kG, al⟩ := w
        rw [hlen, List.take_length] at al
        rw [al] at q
        exact q G kG
end
end K04

set_option maxHeartbeats 4000000
namespace K04
open PySem PySem.Spec PyProof.Rows L2 Hd Evl
/-! ### lives -/
section
variable {K : PySem.W.Frag} {H H' : Hp} {d p : Nat} {u : Int} {v : V} {b : Bool}
theorem StoryV.kw {o : Option (List Bool)} (h : StoryV K H d p v o) (e : Kw H H') : StoryV K H' d p v o := by
  cases h with
  | out h hs => exact .out (h.kw e) hs
  | long h hl => exact .long (e.t _ _ h) hl
  | tup h hl hb => exact .tup (e.t _ _ h) hl (paired_imp (fun _ _ q => q.kw e) hb)
theorem StoryV.ks {S : Addr → Prop} {o : Option (List Bool)} (h : StoryV K H d p v o) (e : Kl S H H') : StoryV K H' d p v o := h.kw e.w
theorem StoryLow.kw (h : StoryLow H u v b) (e : Kw H H') : StoryLow H' u v b := by
  obtain ⟨t, ms, bs, h1, h2, h3, h4⟩ := h
  refine ⟨t, ms, bs, h1, e.t _ _ h2, h3, paired_imp (fun m c hm => ?_) h4⟩
  obtain ⟨t', ds, cs, a1, a2, a3, a4, a5⟩ := hm
  refine ⟨t', ds, cs, a1, e.t _ _ a2, a3, a4, paired_imp (fun x z hz => ?_) a5⟩
  obtain ⟨t'', y, ys, b1, b2, b3⟩ := hz
  exact ⟨t'', y, ys, b1, e.t _ _ b2, b3⟩
theorem StoryLow.ks {S : Addr → Prop} (h : StoryLow H u v b) (e : Kl S H H') : StoryLow H' u v b := h.kw e.w
theorem SessV.kw (h : SessV K H d p v b) (e : Kw H H') : SessV K H' d p v b := by
  cases h with
  | out h hs => exact .out (h.kw e) hs
  | len h hl => exact .len (e.t _ _ h) hl
  | bad h ku sv hb => exact .bad (e.t _ _ h) (ku.kw e) (sv.kw e) hb
  | good h hu sv ho lo => exact .good (e.t _ _ h) hu (sv.kw e) ho (lo.kw e)
theorem SessV.ks {S : Addr → Prop} (h : SessV K H d p v b) (e : Kl S H H') : SessV K H' d p v b := h.kw e.w
theorem SessL.kw {l : Nat} (h : SessL H v l) (e : Kw H H') : SessL H' v l := by
  obtain ⟨t, dp, w, us, h1, h2, h3, h4⟩ := h
  exact ⟨t, dp, w, us, h1, e.t _ _ h2, e.t _ _ h3, h4⟩
theorem SessL.ks {S : Addr → Prop} {l : Nat} (h : SessL H v l) (e : Kl S H H') : SessL H' v l := h.kw e.w
end
/-- a session, whether it is one, and then how many moments it has -/
def SessN (K : PySem.W.Frag) (H : Hp) (d p : Nat) (v : V) (x : Bool × Nat) : Prop := SessV K H d p v x.1 ∧ (x.1 = true → SessL H v x.2)
theorem SessN.kw {K : PySem.W.Frag} {H H' : Hp} {d p : Nat} {v : V} {x : Bool × Nat} (h : SessN K H d p v x) (e : Kw H H') : SessN K H' d p v x := ⟨h.1.kw e, fun z => (h.2 z).kw e⟩
theorem SessN.ks {S : Addr → Prop} {K : PySem.W.Frag} {H H' : Hp} {d p : Nat} {v : V} {x : Bool × Nat} (h : SessN K H d p v x) (e : Kl S H H') : SessN K H' d p v x := h.kw e.w
inductive LifeV (K : PySem.W.Frag) (H : Hp) (d p : Nat) : V → Option (List (Bool × Nat)) → Prop
  | out {v : V} {s : String} (h : KindV K H v s) (hs : isK s "tuple" = false) : LifeV K H d p v none
  | len {a : Addr} {xs : List V} (h : H a = some (.tup xs)) (hl : xs.length = 0 ∨ 6 < xs.length) : LifeV K H d p (.ref a) none
  | tup {a : Addr} {xs : List V} {l : List (Bool × Nat)} (h : H a = some (.tup xs)) (h1 : 1 ≤ xs.length) (h6 : xs.length ≤ 6) (hb : Paired (SessN K H d p) xs l) : LifeV K H d p (.ref a) (some l)
theorem LifeV.kw {K : PySem.W.Frag} {H H' : Hp} {d p : Nat} {v : V} {o : Option (List (Bool × Nat))} (h : LifeV K H d p v o) (e : Kw H H') : LifeV K H' d p v o := by
  cases h with
  | out h hs => exact .out (h.kw e) hs
  | len h hl => exact .len (e.t _ _ h) hl
  | tup h h1 h6 hb => exact .tup (e.t _ _ h) h1 h6 (paired_imp (fun _ _ q => q.kw e) hb)
def GoodL (l : List (Bool × Nat)) (i : Nat) : Prop := (l.take i).all (·.1) = true ∧ ((l.take i).map (·.2)).sum ≤ 40
section
variable {CX : CXT} {P : Program} {w : World} {K : PySem.W.Frag} {mg : Str → Option Value} {base : Heap} {CB CN CL : Addr}
def spLife (K : PySem.W.Frag) (CL Pm Ps : Addr) : Sp := fun vs H Q E => ∃ a n k d p c v o, vs = [.ref a, v] ∧ HouseAt H a n k d p c ∧ LifeV K H d p v o ∧ GxR.TabG H Pm ∧ GxR.TabG H Ps ∧ (o = none → Out K CL "index" Pm E H .non) ∧
  ∀ l, o = some l → (GoodL l l.length → ∀ H2, Ks K H H2 → Q .non H2) ∧ ∀ i : Nat, GoodL l i → (∀ x, l[i]? = some x → x.1 = false ∨ ¬ GoodL l (i + 1)) → i < l.length → Out K CL "index" Pm E H (.int i)
theorem ok_check_life {f fS Pm Ps : Addr} {fd fdS : FuncData} {t6 t40 : Tok} (F : FnP K "check_life" s_check_life f fd) (B : Blt mg) (h6 : mg "MOST_SESSIONS" = some (.int 6 t6)) (h40 : mg "MOST_MOMENTS" = some (.int 40 t40)) (TS : Fn P w K mg base (L2.CX P w) 8 "is_session" ["house", "value"] (spSession K Pm Ps) fS fdS) (EL : ErrF P w K mg base "BadLife" "index" CL) :
    FnOk P w K mg base (L2.CX P w) 9 f fd ["house", "life"] (spLife K CL Pm Ps) := by
  refine F.ok (CX := L2.CX P w) sc_check_life (fun vs H Q E h => ?_) (fun cdv A outer s H vs Q E hr h => ?_)
  · obtain ⟨a, n, k, d, p, c, v, o, rfl, _⟩ := h
    rfl
  · obtain ⟨a, n, k, d, p, c, v, o, rfl, h, hv, hT, hT2, q1, q2⟩ := h
    have h2 := hr.mono (show 2 ≤ 8 by decide)
    refine ⟨_, (pss_cons (ps_if (PW.pt (pw_or (pt_not (pt_val (pe_callB call_isS (by rfl) B.isinstance (by decide +kernel) (pa_cons (pv 1) (pa_cons (pe_ty "tuple" (by rfl) B.tuple (by decide +kernel)) pa_nil))))) (pw_or1 (pt_not (pt_chain op_le op_le pe_int (pe_callB call_len_seq (by rfl) B.len (by decide +kernel) (pa_cons (pv 1) pa_nil)) (pe_glob (v := .int 6) rfl h6 ⟨t6, rfl⟩)))))) (pss_one (ps_raiseF EL rfl h2 (takes_of (E := E) rfl rfl rfl rfl) (by rfl) (pa_cons pe_non pa_nil))) pss_nil)
    (pss_cons (ps_set (i := 2) sc_check_life.nd rfl (Or.inl rfl) pe_int)
    (pss_one (ps_for (passes_of rfl) rfl (pi_enumT (by rfl) B.enumerate (pa_cons (pv 1) pa_nil)) (pg_tup rfl (pgs_cons (pg_name (i := 3) sc_check_life.nd rfl (Or.inl rfl)) (pgs_cons (pg_name (i := 4) sc_check_life.nd rfl (Or.inl rfl)) pgs_nil))) (pss_cons (ps_if (pt_not (pt_val (pe_call TS.G hr (by rfl) TS.m TS.k TS.b .nil (passX (E := E) rfl rfl rfl rfl) (pa_cons (pv 0) (pa_cons (pv 4) pa_nil))))) (pss_one (ps_raiseF EL rfl h2 (takes_of (E := E) rfl rfl rfl rfl) (by rfl) (pa_cons (pv 3) pa_nil))) pss_nil)
    (pss_cons (ps_aug (i := 2) sc_check_life.nd rfl (Or.inl rfl) (pe_callB call_len_seq (by rfl) B.len (by decide +kernel) (pa_cons (pe_ix ix_tup (pv 4) pe_int (fun _ _ => rfl)) pa_nil)) ip_add)
    (pss_one (ps_if (pt_cmpR op_gt (pv 2) (pe_glob (v := .int 40) rfl h40 ⟨t40, rfl⟩) (nomark _)) (pss_one (ps_raiseF EL rfl h2 (takes_of (E := E) rfl rfl rfl rfl) (by rfl) (pa_cons (pv 3) pa_nil))) pss_nil)))))))), ?_⟩
    cases hv with
    | @out v sk hk e =>
      refine ⟨_, rfl, _, _, "tuple", _, rfl, hk.ty, hk.isT, _, rfl, ?_⟩
      rw [e]
      exact iteT (iteT ⟨.non, rfl, fun dd H2 e n x => q1 rfl dd H2 (Ks.ex e) (tab_ex hT e) x⟩)
    | @len t xs ht hl =>
      refine ⟨_, rfl, _, _, "tuple", _, rfl, (KindV.tup ht).ty, (KindV.tup (K := K) ht).isT, _, rfl, iteF ?_⟩
      refine ⟨_, rfl, t, xs, rfl, .inr (SqT.of ht), _, _, rfl, rfl, _, rfl, ite2 (fun e1 => ⟨_, _, rfl, rfl, _, rfl, ?_⟩) (fun e1 => ⟨_, rfl, iteT ⟨.non, rfl, fun dd H2 e n x => q1 rfl dd H2 (Ks.ex e) (tab_ex hT e) x⟩⟩)⟩
      have l1 := of_decide_eq_true e1
      rw [decide_eq_false (show ¬ (xs.length : Int) ≤ 6 by omega)]
      exact iteT ⟨.non, rfl, fun dd H2 e n x => q1 rfl dd H2 (Ks.ex e) (tab_ex hT e) x⟩
    | @tup t xs l ht g1 g6 hb =>
      refine ⟨_, rfl, _, _, "tuple", _, rfl, (KindV.tup ht).ty, (KindV.tup (K := K) ht).isT, _, rfl, iteF ?_⟩
      refine ⟨_, rfl, t, xs, rfl, .inr (SqT.of ht), _, _, rfl, rfl, _, rfl, ite2 (fun e1 => ⟨_, _, rfl, rfl, _, rfl, ?_⟩) (fun e1 => absurd (decide_eq_true (show (1 : Int) ≤ (xs.length : Int) by omega)) e1)⟩
      rw [decide_eq_true (show (xs.length : Int) ≤ 6 by omega)]
      obtain ⟨qn, qi⟩ := q2 l rfl
      have hlen := Paired.length hb
      refine iteF ⟨.ref t, rfl, t, xs, rfl, SqT.of ht, ?_⟩
      refine for_enumT (xs := xs) (fun i σ G => ∃ y3 y4 : Option V, σ = [some (.ref a), some (.ref t), some (.int (((l.take i).map (·.2)).sum : Nat)), y3, y4] ∧ Ks K H G ∧ GoodL l i) ⟨none, none, rfl, Ks.refl, rfl, Nat.zero_le _⟩ (fun i σ G _ w => by obtain ⟨_, _, _, ks, _⟩ := w; exact SqT.of (ks.t _ _ ht)) (fun i x σ G T2 hx w nT => ?_) (fun σ G w => ?_)
      · obtain ⟨y3, y4, rfl, ks, gd⟩ := w
        obtain ⟨⟨b, m⟩, eb, sv, sl⟩ := paired_at hb hx
        have hi : i < l.length := (List.getElem?_eq_some_iff.mp eb).1
        have e1 := Ex.new (o := .tup [V.int (i : Nat), x]) nT
        have k1 := ks.trans (Ks.ex e1)
        have es : ((l.take (i + 1)).map (·.2)).sum = ((l.take i).map (·.2)).sum + m := by
          rw [List.take_succ, eb, List.map_append, List.sum_append] <;> simp
        refine ⟨T2, _, rfl, SqT.of upd_same, rfl, _, _, rfl, _, _, rfl, rfl, ?_⟩
        refine ⟨.ref a, rfl, x, rfl, a, n, k, d, p, c, x, b, rfl, h.ks k1, sv.ks k1, k1.g _ hT, k1.g _ hT2, fun G2 k2 => ⟨b, rfl, ?_⟩⟩
        have k12 := k1.trans k2
        cases b with
        | false => exact iteT ⟨.int i, rfl, .int i, rfl, fun dd H2 e nd xd => qi i gd (fun x ex => .inl (by rw [eb] at ex; cases ex; rfl)) hi dd H2 (k12.trans (Ks.ex e)) (tab_ex (k12.g _ hT) e) xd⟩
        | true =>
          obtain ⟨t3, dp, u, us, rfl, s1, s2, s3⟩ := sl rfl
          refine iteF ⟨_, rfl, .ref t3, rfl, t3, _, _, .ref u, rfl, rfl, SqT.of (k12.t _ _ s1), atI_nat (j := 1) rfl, u, us, rfl, .inr (SqT.of (k12.t _ _ s2)), _, _, rfl, rfl, ?_⟩
          refine ⟨_, rfl, _, _, rfl, rfl, _, rfl, ite2 (fun e4 => ?_) (fun e4 => ?_)⟩
          · have big : ¬ GoodL l (i + 1) := fun z => by
              have z2 := z.2
              have q4 : (40 : Int) < ((((l.take i).map (·.2)).sum : Nat) : Int) + (us.length : Int) := of_decide_eq_true e4
              rw [es] at z2
              omega
            exact ⟨.int i, rfl, .int i, rfl, fun dd H2 e nd xd => qi i gd (fun x ex => .inr big) hi dd H2 (k12.trans (Ks.ex e)) (tab_ex (k12.g _ hT) e) xd⟩
          · refine ⟨some (.int i), some (.ref t3), ?_, k12, ?_, ?_⟩
            · rw [es]
              show _ = [some (V.ref a), some (.ref t), some (.int ((((l.take i).map (·.2)).sum + m : Nat) : Int)), some (.int i), some (.ref t3)]
              rw [show ((((l.take i).map (·.2)).sum + m : Nat) : Int) = ((((l.take i).map (·.2)).sum : Nat) : Int) + (us.length : Int) by omega] <;> rfl
            · rw [List.take_succ, eb, List.all_append, gd.1] <;> rfl
            · rw [es]
              have : ¬ (40 : Int) < ((((l.take i).map (·.2)).sum : Nat) : Int) + (us.length : Int) := fun z => e4 (decide_eq_true z)
              omega
      · obtain ⟨y3, y4, rfl, ks, gd⟩ := w
        rw [hlen] at gd
        exact qn gd G ks
end
end K04

set_option maxHeartbeats 4000000
namespace K04
open PySem PySem.Spec PyProof.Rows L2 Hd Evl
/-! ### data: numbers, deeds, moments, stories, sessions, lives -/
def isTupD : PyData → Bool
  | .tuple _ => true
  | _ => false
def numD : PyData → Int → Int → Bool
  | .int i, lo, hi => decide (lo ≤ i) && decide (i ≤ hi)
  | _, _, _ => false
def deedD (d p : Nat) : PyData → Bool
  | .tuple [x, y, z] => numD x 0 ((d : Int) - 1) && (numD y 0 ((p : Int) - 1) && numD z 0 9)
  | _ => false
def momD (d p : Nat) : PyData → Bool
  | .tuple xs => decide (xs.length ≤ 6) && (xs.map (deedD d p)).all id
  | _ => false
def storyD (d p : Nat) : PyData → Option (List Bool)
  | .tuple ms => if ms.length ≤ 40 then some (ms.map (momD d p)) else none
  | _ => none
def lowD (u : Int) : PyData → Bool
  | .tuple (.int y :: _) => decide (y ≤ u)
  | _ => false
def momLowD (u : Int) : PyData → Bool
  | .tuple ds => (ds.map (lowD u)).all id
  | _ => false
def storyLowD (u : Int) : PyData → Bool
  | .tuple ms => (ms.map (momLowD u)).all id
  | _ => false
def intD : PyData → Int
  | .int i => i
  | _ => 0
def sessD (d p : Nat) : PyData → Bool
  | .tuple [u, s] => (numD u 0 ((d : Int) - 1) && okS (storyD d p s)) && storyLowD (intD u) s
  | _ => false
def sessLen : PyData → Nat
  | .tuple [_, .tuple ms] => ms.length
  | _ => 0
def lifeD (d p : Nat) : PyData → Option (List (Bool × Nat))
  | .tuple ss => if 1 ≤ ss.length ∧ ss.length ≤ 6 then some (ss.map fun s => (sessD d p s, sessLen s)) else none
  | _ => none
section
variable {K : PySem.W.Frag} {r : Addr} {H : Hp} {d p : Nat} {v : V} {e : PyData}
theorem dv_kind (h : Dv r H v e) : ∃ s, KindV K H v s ∧ isK s "tuple" = isTupD e := by
  cases h with
  | non => exact ⟨_, .non, (by decide : isK "NoneType" "tuple" = false)⟩
  | bl b => exact ⟨_, .bl b, (by decide : isK "bool" "tuple" = false)⟩
  | int i => exact ⟨_, .int i, (by decide : isK "int" "tuple" = false)⟩
  | str x => exact ⟨_, .str x, (by decide : isK "str" "tuple" = false)⟩
  | lst n h _ => exact ⟨_, .lst h, (by decide : isK "list" "tuple" = false)⟩
  | tup h _ => exact ⟨_, .tup h, (by decide : isK "tuple" "tuple" = true)⟩
theorem dv_k (h : Dv r H v e) : ∃ s, KindV K H v s := let ⟨s, k, _⟩ := dv_kind h; ⟨s, k⟩
theorem dv_num (h : Dv r H v e) {lo hi : Int} : isNum v lo hi = numD e lo hi := by cases h <;> rfl
theorem dv_kinds {xs : List V} {ds : List PyData} (h : DvAll r H xs ds) : ∀ x ∈ xs, ∃ s, KindV K H x s := fun x hx => by
  obtain ⟨i, hi⟩ := List.mem_iff_getElem?.mp hx
  obtain ⟨d, _, q⟩ := h.at_ hi
  exact dv_k q
theorem dv_deed (h : Dv r H v e) : DeedV K H d p v (deedD d p e) := by
  cases h with
  | non => exact .out .non (by decide)
  | bl b => exact .out (.bl b) (by decide)
  | int i => exact .out (.int i) (by decide)
  | str x => exact .out (.str x) (by decide)
  | lst n h _ => exact .out (.lst h) (by decide)
  | @tup a xs ds h all =>
    have e2 : deedB d p xs = deedD d p (.tuple ds) := by
      match xs, ds, all with
      | [], [], _ => rfl
      | [_], [_], _ => rfl
      | [_, _], [_, _], _ => rfl
      | [x, y, z], [a, b, c], .cons h1 (.cons h2 (.cons h3 .nil)) =>
        show (isNum x 0 ((d : Int) - 1) && (isNum y 0 ((p : Int) - 1) && isNum z 0 9)) = (numD a 0 ((d : Int) - 1) && (numD b 0 ((p : Int) - 1) && numD c 0 9))
        rw [dv_num h1, dv_num h2, dv_num h3]
      | _ :: _ :: _ :: _ :: _, _ :: _ :: _ :: _ :: _, _ => rfl
    rw [← e2]
    exact .tup h (dv_kinds all)
theorem paired_map {α β γ : Type} {R : α → β → Prop} {S : α → γ → Prop} (f : β → γ) (g : ∀ a b, R a b → S a (f b)) : ∀ {xs : List α} {ys : List β}, Paired R xs ys → Paired S xs (ys.map f)
  | _, _, .nil => .nil
  | _, _, .cons h t => .cons (g _ _ h) (paired_map f g t)
theorem dv_mom (h : Dv r H v e) : MomentV K H d p v (momD d p e) := by
  cases h with
  | non => exact .out .non (by decide)
  | bl b => exact .out (.bl b) (by decide)
  | int i => exact .out (.int i) (by decide)
  | str x => exact .out (.str x) (by decide)
  | lst n h _ => exact .out (.lst h) (by decide)
  | @tup a xs ds h all =>
    have e2 : (decide (xs.length ≤ 6) && (ds.map (deedD d p)).all id) = momD d p (.tuple ds) := by rw [all.len] <;> rfl
    rw [← e2]
    exact .tup h (paired_map _ (fun _ _ q => dv_deed q) all.pair)
theorem dv_story (h : Dv r H v e) : StoryV K H d p v (storyD d p e) := by
  cases h with
  | non => exact .out .non (by decide)
  | bl b => exact .out (.bl b) (by decide)
  | int i => exact .out (.int i) (by decide)
  | str x => exact .out (.str x) (by decide)
  | lst n h _ => exact .out (.lst h) (by decide)
  | @tup a xs ds h all =>
    by_cases hl : ds.length ≤ 40
    · have e2 : storyD d p (.tuple ds) = some (ds.map (momD d p)) := if_pos hl
      rw [e2]
      exact .tup h (by rw [all.len]; exact hl) (paired_map _ (fun _ _ q => dv_mom q) all.pair)
    · have e2 : storyD d p (.tuple ds) = none := if_neg hl
      rw [e2]
      exact .long h (by rw [all.len]; omega)
/-! #### what a good story is -/
theorem okS_some {o : Option (List Bool)} (h : okS o = true) : ∃ bs, o = some bs ∧ bs.all id = true := by
  cases o with
  | none => cases h
  | some bs => exact ⟨bs, rfl, h⟩
theorem story_tup {e : PyData} (h : okS (storyD d p e) = true) : ∃ ms, e = .tuple ms ∧ ms.length ≤ 40 ∧ ∀ m ∈ ms, momD d p m = true := by
  obtain ⟨bs, e1, e2⟩ := okS_some h
  cases e with
  | tuple ms =>
    by_cases hl : ms.length ≤ 40
    · have e3 : storyD d p (.tuple ms) = some (ms.map (momD d p)) := if_pos hl
      rw [e3] at e1
      obtain rfl := Option.some.inj e1
      refine ⟨ms, rfl, hl, fun m hm => ?_⟩
      exact List.all_eq_true.mp e2 _ (List.mem_map_of_mem hm)
    · have e3 : storyD d p (.tuple ms) = none := if_neg hl
      rw [e3] at e1
      cases e1
  | _ => cases e1
theorem mom_tup {m : PyData} (h : momD d p m = true) : ∃ ds, m = .tuple ds ∧ ds.length ≤ 6 ∧ ∀ x ∈ ds, deedD d p x = true := by
  cases m with
  | tuple ds =>
    have h' : (decide (ds.length ≤ 6) && (ds.map (deedD d p)).all id) = true := h
    rw [Bool.and_eq_true] at h'
    exact ⟨ds, rfl, of_decide_eq_true h'.1, fun x hx => List.all_eq_true.mp h'.2 _ (List.mem_map_of_mem hx)⟩
  | _ => cases h
theorem deed_tup {x : PyData} (h : deedD d p x = true) : ∃ a b c : Nat, x = .tuple [.int a, .int b, .int c] ∧ a < d ∧ b < p ∧ c ≤ 9 := by
  have num : ∀ {y : PyData} {hi : Int}, numD y 0 hi = true → ∃ n : Nat, y = .int n ∧ (n : Int) ≤ hi := fun {y hi} q => by
    cases y with
    | int i =>
      have q' : (decide (0 ≤ i) && decide (i ≤ hi)) = true := q
      rw [Bool.and_eq_true] at q'
      have a := of_decide_eq_true q'.1
      have b := of_decide_eq_true q'.2
      exact ⟨i.toNat, by rw [Int.toNat_of_nonneg a], by omega⟩
    | _ => cases q
  cases x with
  | tuple ds =>
    match ds, h with
    | [x, y, z], h =>
      have h' : (numD x 0 ((d : Int) - 1) && (numD y 0 ((p : Int) - 1) && numD z 0 9)) = true := h
      rw [Bool.and_eq_true, Bool.and_eq_true] at h'
      obtain ⟨a, rfl, ha⟩ := num h'.1
      obtain ⟨b, rfl, hb⟩ := num h'.2.1
      obtain ⟨c, rfl, hc⟩ := num h'.2.2
      exact ⟨a, b, c, rfl, by omega, by omega, by omega⟩
  | _ => cases h
theorem dv_low {u : Int} {m : PyData} (h : Dv r H v m) (ok : deedD d p m = true) : DeedLow H u v (lowD u m) := by
  obtain ⟨a, b, c, rfl, _⟩ := deed_tup ok
  cases h with
  | tup h all =>
    cases all with
    | cons h1 h2 =>
      cases h1
      exact ⟨_, _, _, rfl, h, rfl⟩
theorem paired_mapM {α β γ : Type} {R : α → β → Prop} {S : α → γ → Prop} (f : β → γ) : ∀ {xs : List α} {ys : List β}, Paired R xs ys → (∀ a b, b ∈ ys → R a b → S a (f b)) → Paired S xs (ys.map f)
  | _, _, .nil, _ => .nil
  | _, _, .cons h t, g => .cons (g _ _ List.mem_cons_self h) (paired_mapM f t fun a b hb q => g a b (List.mem_cons_of_mem _ hb) q)
theorem dv_momLow {u : Int} {m : PyData} (h : Dv r H v m) (ok : momD d p m = true) : MomentLow H u v (momLowD u m) := by
  obtain ⟨ds, rfl, hl, hd⟩ := mom_tup ok
  cases h with
  | tup h all => exact ⟨_, _, _, rfl, h, by rw [all.len]; exact hl, rfl, paired_mapM _ all.pair fun a b hb q => dv_low q (hd b hb)⟩
theorem dv_storyLow {u : Int} {s : PyData} (h : Dv r H v s) (ok : okS (storyD d p s) = true) : StoryLow H u v (storyLowD u s) := by
  obtain ⟨ms, rfl, hl, hm⟩ := story_tup ok
  cases h with
  | tup h all => exact ⟨_, _, _, rfl, h, rfl, paired_mapM _ all.pair fun a b hb q => dv_momLow q (hm b hb)⟩
theorem dv_sess (h : Dv r H v e) : SessN K H d p v (sessD d p e, sessLen e) := by
  cases h with
  | non => exact ⟨.out .non (by decide), fun z => by cases z⟩
  | bl b => exact ⟨.out (.bl b) (by decide), fun z => by cases z⟩
  | int i => exact ⟨.out (.int i) (by decide), fun z => by cases z⟩
  | str x => exact ⟨.out (.str x) (by decide), fun z => by cases z⟩
  | lst n h _ => exact ⟨.out (.lst h) (by decide), fun z => by cases z⟩
  | @tup a xs ds h all =>
    match xs, ds, all with
    | [], [], _ => exact ⟨.len h (by simp), fun z => by cases z⟩
    | [_], [_], _ => exact ⟨.len h (by simp), fun z => by cases z⟩
    | _ :: _ :: _ :: _, _ :: _ :: _ :: _, _ => exact ⟨.len h (by simp), fun z => by cases z⟩
    | [x, y], [u, s], .cons h1 (.cons h2 .nil) =>
      obtain ⟨k1, g1⟩ := dv_k (K := K) h1
      cases eb : (numD u 0 ((d : Int) - 1) && okS (storyD d p s)) with
      | false =>
        have e2 : sessD d p (.tuple [u, s]) = false := by
          show ((numD u 0 ((d : Int) - 1) && okS (storyD d p s)) && storyLowD (intD u) s) = false
          rw [eb] <;> rfl
        rw [e2]
        exact ⟨.bad h g1 (dv_story h2) (by rw [dv_num h1]; exact eb), fun z => by cases z⟩
      | true =>
        have e2 : sessD d p (.tuple [u, s]) = storyLowD (intD u) s := by
          show ((numD u 0 ((d : Int) - 1) && okS (storyD d p s)) && storyLowD (intD u) s) = _
          rw [eb] <;> rfl
        rw [e2]
        rw [Bool.and_eq_true] at eb
        have hn := eb.1
        rw [← dv_num h1] at hn
        have ex := isNum_int hn
        obtain ⟨ms, rfl, hl, hm⟩ := story_tup eb.2
        cases h1 with
        | int i =>
          have lo := dv_storyLow (u := i) h2 eb.2
          refine ⟨.good h hn (dv_story h2) eb.2 lo, fun _ => ?_⟩
          cases h2 with
          | tup h3 a3 => exact ⟨_, _, _, _, rfl, h, h3, a3.len⟩
        | _ => cases hn
theorem dv_life (h : Dv r H v e) : LifeV K H d p v (lifeD d p e) := by
  cases h with
  | non => exact .out .non (by decide)
  | bl b => exact .out (.bl b) (by decide)
  | int i => exact .out (.int i) (by decide)
  | str x => exact .out (.str x) (by decide)
  | lst n h _ => exact .out (.lst h) (by decide)
  | @tup a xs ds h all =>
    have hl := all.len
    by_cases c : 1 ≤ ds.length ∧ ds.length ≤ 6
    · have e2 : lifeD d p (.tuple ds) = some (ds.map fun s => (sessD d p s, sessLen s)) := if_pos c
      rw [e2]
      exact .tup h (by omega) (by omega) (paired_map _ (fun _ _ q => dv_sess q) all.pair)
    · have e2 : lifeD d p (.tuple ds) = none := if_neg c
      rw [e2]
      exact .len h (by omega)
end
end K04

set_option maxHeartbeats 4000000
namespace K04
open PySem PySem.Spec PyProof.Rows L2 Hd Evl
/-! ### the law's draws -/
/-- all but the list at r stays -/
def Kq (r : Addr) (H H' : Hp) : Prop := ∀ b o, b ≠ r → H b = some o → H' b = some o
section
variable {r D : Addr} {H H1 H2 : Hp} {o : HO}
theorem Kq.refl : Kq r H H := fun _ _ _ h => h
theorem Kq.trans (a : Kq r H H1) (b : Kq r H1 H2) : Kq r H H2 := fun c u n h => b c u n (a c u n h)
theorem Kq.ex (e : Ex H H1) : Kq r H H1 := fun c u _ h => e _ _ h
theorem Kq.row : Kq r H (upd H r o) := fun c u n h => by rw [upd_ne n]; exact h
theorem Kq.put (k : Kq r H H1) (n : H D = none) : Kq r H (upd H1 D o) := fun c u m h => by
  rw [upd_ne (ne_of_none h n)]
  exact k c u m h
theorem Kq.kr (k : Kq r H H1) : Kr r H H1 := fun c u n _ h => k c u n h
end
structure Rw (K : PySem.W.Frag) (r a : Addr) (ns : List Int) (H : Hp) : Prop where
  row : ∃ i sd rs, H r = some (.lst (rowV a i sd rs)) ∧ 0 ≤ i ∧ 0 ≤ sd ∧ sd < 2147483647
  src : Src K r a ns H
section
variable {K : PySem.W.Frag} {r a D : Addr} {ns : List Int} {H H1 : Hp}
theorem Rw.ex (W : Rw K r a ns H) (e : Ex H H1) : Rw K r a ns H1 := by
  obtain ⟨i, sd, rs, h, b⟩ := W.row
  exact ⟨⟨i, sd, rs, e _ _ h, b⟩, W.src.ex e⟩
theorem Rw.upd (W : Rw K r a ns H) {i sd rs : Int} (h1 : 0 ≤ i) (h2 : 0 ≤ sd) (h3 : sd < 2147483647) : Rw K r a ns (upd H r (.lst (rowV a i sd rs))) := by
  obtain ⟨_, _, _, h, _⟩ := W.row
  exact ⟨⟨i, sd, rs, upd_same, h1, h2, h3⟩, W.src.row⟩
theorem Rw.lst (W : Rw K r a ns H) : ∃ xs, H r = some (.lst xs) := let ⟨_, _, _, h, _⟩ := W.row; ⟨_, h⟩
theorem Rw.notup (W : Rw K r a ns H) (xs : List V) : H r ≠ some (.tup xs) := fun e => by
  obtain ⟨ys, h⟩ := W.lst
  rw [h] at e
  cases e
theorem Rw.ne (W : Rw K r a ns H) (n : H D = none) : D ≠ r := fun e => by
  obtain ⟨ys, h⟩ := W.lst
  rw [e, h] at n
  cases n
/-- a fresh list D (fresh at G) has grown -/
theorem Rw.put {G : Hp} {xs ys : List V} (W : Rw K r a ns H) (W0 : Rw K r a ns G) (n : G D = none) (h : H D = some (.lst xs)) : Rw K r a ns (L2.upd H D (.lst ys)) := by
  obtain ⟨i, sd, rs, hr, b⟩ := W.row
  have nD := W0.ne n
  refine ⟨⟨i, sd, rs, by rw [upd_ne nD.symm]; exact hr, b⟩, ?_⟩
  have na : ∀ z : Addr, (∃ o, G z = some o) → z ≠ D := fun z ⟨o, e⟩ q => by rw [q, n] at e; cases e
  rcases W.src with q | ⟨m, q⟩
  · exact .inl q
  · rcases W0.src with q0 | ⟨m0, q0⟩
    · exact .inl q0
    · have ne : a ≠ D := by
        rcases q0 with z | ⟨u, z⟩
        · exact na _ ⟨_, z⟩
        · exact na _ ⟨_, z⟩
      refine .inr ⟨m, ?_⟩
      rcases q with z | ⟨u, z⟩
      · exact .inl (by rw [upd_ne ne]; exact z)
      · exact .inr ⟨u, by rw [upd_ne ne]; exact z⟩
theorem Dv.kq {v : V} {e : PyData} (h : Dv r H v e) (W : Rw K r a ns H) (k : Kq r H H1) : Dv r H1 v e := Hd.Dv.kr k.kr W.notup e v h
theorem taken_of (W : Rw K r a ns H) {m : Nat} {z : Int} {Q : VK} {E : XK} (e : z = (m : Int)) (h1 : 1 ≤ m) (h2 : m < 2 ^ 60) (q : ∀ (x : Nat) H', x < m → Kq r H H' → Rw K r a ns H' → Q (iV x) H') : spTaken K [.ref r, .int z] H Q E := by
  subst e
  obtain ⟨i, sd, rs, h, b1, b2, b3⟩ := W.row
  exact ⟨r, a, ns, i, sd, rs, m, rfl, h, W.src, b1, b2, b3, h1, h2, fun i' sd' rs' x c1 c2 c3 c4 => q x _ c4 Kq.row (W.upd c1 c2 c3)⟩
theorem HouseAt.kq {hs : Addr} {n k d p c : Nat} (h : HouseAt H hs n k d p c) (W : Rw K r a ns H) (e : Kq r H H1) : HouseAt H1 hs n k d p c := { h with at_ := e _ _ (fun z => W.notup _ (z ▸ h.at_)) h.at_ }
end
section
variable {CX : CXT} {P : Program} {w : World} {K : PySem.W.Frag} {mg : Str → Option Value} {base : Heap}
abbrev TakenF (P : Program) (w : World) (K : PySem.W.Frag) (mg : Str → Option Value) (base : Heap) (f : Addr) (fd : FuncData) : Prop := Fn P w K mg base CX0 1 "_law_taken" ["row", "many"] (spTaken K) f fd
/-! #### choices -/
theorem nck_step : ∀ n k : Fin 13, nck n k * (n - k) = nck n (k + 1) * (k + 1) := by decide +kernel
def spChoices : Sp := fun vs H Q _ => ∃ n k : Nat, vs = [iV n, iV k] ∧ n ≤ 12 ∧ k ≤ n ∧ Q (iV (nck n k)) H
theorem ok_choices {f : Addr} {fd : FuncData} (F : FnP K "_law_choices" s__law_choices f fd) (B : Blt mg) : FnOk P w K mg base CX 1 f fd ["many", "some"] spChoices := by
  refine F.ok (CX := CX) sc__law_choices (fun vs H Q E h => ?_) (fun cdv A outer s H vs Q E hr h => ?_)
  · obtain ⟨n, k, rfl, _⟩ := h
    rfl
  · obtain ⟨n, k, rfl, hn, hk, q⟩ := h
    refine ⟨_, (pss_cons (ps_if (pt_cmpR op_gt (pv 1) (pv 0) (nomark _)) (pss_one (ps_ret pe_int)) pss_nil)
    (pss_cons (ps_set (i := 2) sc__law_choices.nd rfl (Or.inl rfl) pe_int)
    (pss_cons (ps_for (passes_of rfl) rfl (pi_range1 (by rfl) B.range (pa_cons (pv 1) pa_nil)) (pg_name (i := 3) sc__law_choices.nd rfl (Or.inl rfl)) (pss_one (ps_set (i := 2) sc__law_choices.nd rfl (Or.inl rfl) (pe_op op_fdivW (pe_op op_mul (pv 2) (pe_op op_sub (pv 0) (pv 3))) (pe_op op_add (pv 3) pe_int)))))
    (pss_one (ps_ret (pv 2)))))), ?_⟩
    refine ⟨iV k, rfl, iV n, rfl, _, _, rfl, rfl, _, rfl, ?_⟩
    rw [decide_eq_false (show ¬ (n : Int) < (k : Int) by omega)]
    refine iteF ⟨iV k, rfl, k, rfl, by omega, by omega, for_range (lo := 0) (n := k) (fun i σ G => G = H ∧ ∃ y, σ = [some (iV n), some (iV k), some (iV (nck n i)), y]) ⟨rfl, none, by rw [nck_zero] <;> rfl⟩ (fun i σ G hi w => ?_) (fun σ G w => ?_)⟩
    · obtain ⟨rfl, y, rfl⟩ := w
      have st := nck_step ⟨n, by omega⟩ ⟨i, by omega⟩
      have st' : nck n i * (n - i) = nck n (i + 1) * (i + 1) := st
      have b1 := nck_le hn (show i ≤ 12 by omega)
      have wd : ∀ {z : Nat}, z < 2 ^ 20 → ((z : Nat) : Int).natAbs < 2 ^ 20 := fun h => by rw [Int.natAbs_natCast]; exact h
      refine ⟨iV (nck n i), rfl, iV n, rfl, .int (0 + (i : Int)), rfl, _, _, rfl, rfl, _, _, rfl, rfl, ?_, .int (0 + (i : Int)), rfl, _, _, rfl, rfl, _, _, rfl, rfl, ?_, rfl, some (.int (0 + (i : Int))), ?_⟩
      · exact .inl ⟨by omega, by omega⟩
      · exact wide_div (b := 20) (by omega) (by omega) (by decide) (by decide)
      · have e1 : ((nck n i : Nat) : Int) * ((n : Int) - (0 + (i : Int))) = ((nck n (i + 1) * (i + 1) : Nat) : Int) := by
          rw [← st', show (n : Int) - (0 + (i : Int)) = ((n - i : Nat) : Int) by omega]
          push_cast
          rfl
        have e2 : ((nck n i : Nat) : Int) * ((n : Int) - (0 + (i : Int))) / (0 + (i : Int) + 1) = ((nck n (i + 1) : Nat) : Int) := by
          rw [e1, show (0 : Int) + (i : Int) + 1 = ((i + 1 : Nat) : Int) by omega, ← Int.natCast_ediv, Nat.mul_div_cancel _ (by omega)]
        show [some (iV n), some (iV k), some (V.int (((nck n i : Nat) : Int) * ((n : Int) - (0 + (i : Int))) / (0 + (i : Int) + 1))), some (V.int (0 + (i : Int)))] = _
        rw [e2]
    · obtain ⟨rfl, y, rfl⟩ := w
      exact ⟨_, rfl, q⟩
/-! #### a house -/
structure HouseP (K : PySem.W.Frag) (vs : List V) (H : Hp) (Q : VK) : Prop where
  go : ∃ (r a : Addr) (ns : List Int) (most : Nat), vs = [.ref r, iV most] ∧ Rw K r a ns H ∧ 2 ≤ most ∧ most ≤ 12 ∧ ∀ (n k d p c : Nat) (hs : Addr) (H' : Hp), HouseAt H' hs n k d p c → n ≤ most → k ≤ 4 → d ≤ 3 → p ≤ 3 → c ≤ 2 → Kq r H H' → Rw K r a ns H' → Q (.ref hs) H'
def spHouse (K : PySem.W.Frag) : Sp := fun vs H Q _ => HouseP K vs H Q
theorem ok_house {f fT : Addr} {fd fdT : FuncData} (F : FnP K "_law_house" s__law_house f fd) (B : Blt mg) (T : TakenF P w K mg base fT fdT) : FnOk P w K mg base CX 2 f fd ["row", "most"] (spHouse K) := by
  refine F.ok (CX := CX) sc__law_house (fun vs H Q E h => ?_) (fun cdv A outer s H vs Q E hr h => ?_)
  · obtain ⟨r, a, ns, most, rfl, _⟩ := h
    rfl
  · obtain ⟨r, a, ns, most, rfl, W, h1, h2, q⟩ := h
    refine ⟨_, (pss_cons (ps_set (i := 2) sc__law_house.nd rfl (Or.inl rfl) (pe_op op_add pe_int (pe_call T.G hr (by rfl) T.m T.k T.b .nil pass0 (pa_cons (pv 0) (pa_cons (pe_op op_sub (pv 1) pe_int) pa_nil)))))
    (pss_one (ps_ret (pe_tup (pa_cons (pv 2) (pa_cons (pe_op op_add pe_int (pe_call T.G hr (by rfl) T.m T.k T.b .nil pass0 (pa_cons (pv 0) (pa_cons (pe_callB (call_min2 rfl) (by rfl) B.min (by decide +kernel) (pa_cons (pv 2) (pa_cons pe_int pa_nil))) pa_nil)))) (pa_cons (pe_op op_add pe_int (pe_call T.G hr (by rfl) T.m T.k T.b .nil pass0 (pa_cons (pv 0) (pa_cons pe_int pa_nil)))) (pa_cons (pe_op op_add pe_int (pe_call T.G hr (by rfl) T.m T.k T.b .nil pass0 (pa_cons (pv 0) (pa_cons pe_int pa_nil)))) (pa_cons (pe_op op_add pe_int (pe_call T.G hr (by rfl) T.m T.k T.b .nil pass0 (pa_cons (pv 0) (pa_cons pe_int pa_nil)))) pa_nil))))))))), ?_⟩
    refine ⟨.ref r, rfl, iV most, rfl, _, _, rfl, rfl, taken_of (m := most - 1) W (by omega) (by omega) (by omega) fun x1 H1 l1 k1 W1 => ⟨_, _, rfl, rfl, ?_⟩⟩
    obtain ⟨mn, hmn⟩ : ∃ mn : Nat, (if (4 : Int) < 2 + (x1 : Int) then (4 : Int) else 2 + (x1 : Int)) = (mn : Int) ∧ 1 ≤ mn ∧ mn ≤ 4 ∧ mn ≤ 2 + x1 := by
      by_cases z : (4 : Int) < 2 + (x1 : Int)
      · exact ⟨4, by rw [if_pos z] <;> rfl, by omega, by omega, by omega⟩
      · exact ⟨2 + x1, by rw [if_neg z]; omega, by omega, by omega, by omega⟩
    refine ⟨_, rfl, .ref r, rfl, _, rfl, _, _, rfl, taken_of (m := mn) W1 hmn.1 (by omega) (by omega) fun x2 H2 l2 k2 W2 => ⟨_, _, rfl, rfl, ?_⟩⟩
    refine ⟨.ref r, rfl, taken_of (m := 3) W2 rfl (by decide) (by decide) fun x3 H3 l3 k3 W3 => ⟨_, _, rfl, rfl, ?_⟩⟩
    refine ⟨.ref r, rfl, taken_of (m := 3) W3 rfl (by decide) (by decide) fun x4 H4 l4 k4 W4 => ⟨_, _, rfl, rfl, ?_⟩⟩
    refine ⟨.ref r, rfl, taken_of (m := 2) W4 rfl (by decide) (by decide) fun x5 H5 l5 k5 W5 => ⟨_, _, rfl, rfl, ?_⟩⟩
    refine ⟨by show 5 ≤ sizeLine; decide, fun t nt => ?_⟩
    have et := Ex.new (o := HO.tup [V.int (2 + (x1 : Nat)), V.int (1 + (x2 : Nat)), V.int (1 + (x3 : Nat)), V.int (1 + (x4 : Nat)), V.int (1 + (x5 : Nat))]) nt
    refine q (2 + x1) (1 + x2) (1 + x3) (1 + x4) (1 + x5) t _ ⟨upd_same.trans (by push_cast; rfl), by omega, by omega, by omega, by omega, by omega, by omega, by omega, by omega, by omega, by omega⟩ (by omega) (by omega) (by omega) (by omega) (by omega) ((k1.trans (k2.trans (k3.trans (k4.trans k5)))).trans (Kq.ex et)) (W5.ex et)
end
end K04

set_option maxHeartbeats 4000000
namespace K04
open PySem PySem.Spec PyProof.Rows L2 Hd Evl
section
variable {K : PySem.W.Frag} {r a : Addr} {ns : List Int} {H H1 : Hp}
theorem Kq.kt (k : Kq r H H1) (W : Rw K r a ns H) : Kt H H1 := fun b xs h => k _ _ (fun z => W.notup _ (z ▸ h)) h
end
section
variable {CX : CXT} {P : Program} {w : World} {K : PySem.W.Frag} {mg : Str → Option Value} {base : Heap}
/-! #### a moment -/
structure MomP (K : PySem.W.Frag) (vs : List V) (H : Hp) (Q : VK) : Prop where
  go : ∃ (r a hs : Addr) (ns : List Int) (n k d p c u most : Nat), vs = [.ref r, .ref hs, iV u, iV most] ∧ Rw K r a ns H ∧ HouseAt H hs n k d p c ∧ u < d ∧ most ≤ 6 ∧ ∀ (t : Addr) (m : MomT) (H' : Hp), Tv H' (.ref t) (momP m) → (m.length ≤ most ∧ ∀ x ∈ m, OkDeed u p x) → Kq r H H' → Rw K r a ns H' → Q (.ref t) H'
def spMom (K : PySem.W.Frag) : Sp := fun vs H Q _ => MomP K vs H Q
theorem ok_mom {f fT : Addr} {fd fdT : FuncData} (F : FnP K "_law_moment" s__law_moment f fd) (B : Blt mg) (T : TakenF P w K mg base fT fdT) : FnOk P w K mg base CX 2 f fd ["row", "house", "deepest", "most"] (spMom K) := by
  refine F.ok (CX := CX) sc__law_moment (fun vs H Q E h => ?_) (fun cdv A outer s H vs Q E hr h => ?_)
  · obtain ⟨r, a, hs, ns, n, k, d, p, c, u, most, rfl, _⟩ := h
    rfl
  · obtain ⟨r, a, hs, ns, n, k, d, p, c, u, most, rfl, W, hh, hu, hm, q⟩ := h
    refine ⟨_, (pss_one (ps_ret (pe_callTy call_tuple_of (by rfl) B.tuple (by decide +kernel) (pa_cons (pe_lc (own := [("k", 4)]) (g := gName 4) (by rfl) sc__law_moment.nd (pi_range1 (by rfl) B.range (pa_cons (pe_call T.G hr (by rfl) T.m T.k T.b .nil pass0 (pa_cons (pv 0) (pa_cons (pe_op op_add (pv 3) pe_int) pa_nil))) pa_nil)) (blkOk_by (own := [("k", 4)]) (N := n__law_moment) (sc := defScope s__law_moment) (by decide +kernel)) (fun _ _ _ _ _ => pg_name (i := 4) sc__law_moment.nd rfl (Or.inl rfl)) (fun _ _ _ _ _ => pts_nil)
      (fun _ _ _ _ _ => (pe_tup (pa_cons (pe_call T.G hr (by rfl) T.m T.k T.b .nil pass0 (pa_cons (pv 0) (pa_cons (pe_op (op_add : OpR _ _ (rI0 fun i j => .int (i + j))) (pv 2) pe_int) pa_nil))) (pa_cons (pe_call T.G hr (by rfl) T.m T.k T.b .nil pass0 (pa_cons (pv 0) (pa_cons (pe_ix (ix_tup : IxR _ (rIxT K)) (pv 1) pe_int (fun _ _ => rfl)) pa_nil))) (pa_cons (pe_call T.G hr (by rfl) T.m T.k T.b .nil pass0 (pa_cons (pv 0) (pa_cons pe_int pa_nil))) pa_nil)))))) pa_nil)))), ?_⟩
    refine ⟨.ref r, rfl, iV most, rfl, _, _, rfl, rfl, taken_of (m := most + 1) W (by omega) (by omega) (by omega) fun x0 H0 l0 k0 W0 => ⟨(x0 : Int), rfl, by omega, by omega, fun D nD => ?_⟩⟩
    have d4 := hh.d4; have p6 := hh.p6
    refine lc_range (lo := 0) (n := x0) (fun i G => ∃ (m : MomT) (ws : List V), m.length = i ∧ (∀ x ∈ m, OkDeed u p x) ∧ G D = some (.lst ws) ∧ TvAll G ws (m.map deedP) ∧ Kq r H0 G ∧ Rw K r a ns G) ⟨[], [], rfl, (fun x hx => by cases hx), upd_same, .nil, Kq.ex (Ex.new nD), W0.ex (Ex.new nD)⟩ (fun i G hi w => ?_) (fun G w => ?_)
    · obtain ⟨m, ws, ml, mo, gD, tv, kG, WG⟩ := w
      refine ⟨rfl, yes_go ?_⟩
      refine ⟨.ref r, rfl, iV u, rfl, _, _, rfl, rfl, taken_of (m := u + 1) WG (by omega) (by omega) (by omega) fun x1 G1 l1 k1 W1 => ?_⟩
      have hh1 := hh.kq W ((k0.trans kG).trans k1)
      refine ⟨.ref r, rfl, .ref hs, rfl, hs, _, _, .int p, rfl, rfl, SqT.of hh1.at_, atI_nat (j := 3) rfl, taken_of (m := p) W1 rfl hh.p1 (by omega) fun x2 G2 l2 k2 W2 => ?_⟩
      refine ⟨.ref r, rfl, taken_of (m := 10) W2 rfl (by decide) (by decide) fun x3 G3 l3 k3 W3 => ?_⟩
      refine ⟨by show 3 ≤ sizeLine; decide, fun t nt => ?_⟩
      have et := Ex.new (o := HO.tup [iV x1, iV x2, iV x3]) nt
      have k13 := (k1.trans (k2.trans k3)).trans (Kq.ex (r := r) et)
      have W4 := W3.ex et
      have nDr := W0.ne nD
      have gD4 := k13 _ _ nDr gD
      refine ⟨ws, gD4, ?_, m ++ [(x1, x2, x3)], ws ++ [.ref t], by rw [List.length_append, ml] <;> rfl, fun x hx => ?_, upd_same, ?_, ?_, W4.put W0 nD gD4⟩
      · rw [tv.len, List.length_map, ml]
        exact Nat.lt_of_lt_of_le hi (Nat.le_trans (show x0 ≤ 6 by omega) (by decide))
      · rcases List.mem_append.mp hx with z | z
        · exact mo x z
        · rw [List.mem_singleton.mp z]
          exact ⟨by show x1 ≤ u; omega, l2, l3⟩
      · rw [List.map_append]
        refine TvAll.mv (TvAll.app (tv.mv (k13.kt WG)) ?_) (Kt.put gD4)
        exact .cons (.tup upd_same (.cons (.int _) (.cons (.int _) (.cons (.int _) .nil)))) .nil
      · exact (kG.trans k13).put nD
    · obtain ⟨m, ws, ml, mo, gD, tv, kG, WG⟩ := w
      refine ⟨D, ws, rfl, .inl ⟨SqL.of gD, fun t nt => ?_⟩⟩
      have et := Ex.new (o := HO.tup ws) nt
      exact q t m _ (.tup upd_same (tv.mv (Kt.ex et))) ⟨by omega, mo⟩ ((k0.trans kG).trans (Kq.ex et)) (WG.ex et)
/-! #### coins -/
structure CoinsP (K : PySem.W.Frag) (vs : List V) (H : Hp) (Q : VK) : Prop where
  go : ∃ (r a hs : Addr) (ns : List Int) (n k d p c many : Nat), vs = [.ref r, .ref hs, iV many] ∧ Rw K r a ns H ∧ HouseAt H hs n k d p c ∧ many ≤ 1000 ∧ ∀ (t : Addr) (cs : List Nat) (H' : Hp), H' t = some (.tup (cs.map iV)) → cs.length = many → (∀ x ∈ cs, x < nck n k) → Kq r H H' → Rw K r a ns H' → Q (.ref t) H'
def spCoinsL (K : PySem.W.Frag) : Sp := fun vs H Q _ => CoinsP K vs H Q
theorem ok_coins {f fT fC : Addr} {fd fdT fdC : FuncData} (F : FnP K "_law_coins" s__law_coins f fd) (B : Blt mg) (T : TakenF P w K mg base fT fdT) (TC : Fn P w K mg base CX0 1 "_law_choices" ["many", "some"] spChoices fC fdC) : FnOk P w K mg base CX 2 f fd ["row", "house", "many"] (spCoinsL K) := by
  refine F.ok (CX := CX) sc__law_coins (fun vs H Q E h => ?_) (fun cdv A outer s H vs Q E hr h => ?_)
  · obtain ⟨r, a, hs, ns, n, k, d, p, c, many, rfl, _⟩ := h
    rfl
  · obtain ⟨r, a, hs, ns, n, k, d, p, c, many, rfl, W, hh, hm, q⟩ := h
    refine ⟨_, (pss_one (ps_ret (pe_callTy call_tuple_of (by rfl) B.tuple (by decide +kernel) (pa_cons (pe_lc (own := [("k", 3)]) (g := gName 3) (by rfl) sc__law_coins.nd (pi_range1 (by rfl) B.range (pa_cons (pv 2) pa_nil)) (blkOk_by (own := [("k", 3)]) (N := n__law_coins) (sc := defScope s__law_coins) (by decide +kernel)) (fun _ _ _ _ _ => pg_name (i := 3) sc__law_coins.nd rfl (Or.inl rfl)) (fun _ _ _ _ _ => pts_nil)
      (fun _ _ _ _ _ => (pe_call T.G hr (by rfl) T.m T.k T.b .nil pass0 (pa_cons (pv 0) (pa_cons (pe_call TC.G hr (by rfl) TC.m TC.k TC.b .nil pass0 (pa_cons (pe_ix (ix_tup : IxR _ (rIxT K)) (pv 1) pe_int (fun _ _ => rfl)) (pa_cons (pe_ix (ix_tup : IxR _ (rIxT K)) (pv 1) pe_int (fun _ _ => rfl)) pa_nil))) pa_nil))))) pa_nil)))), ?_⟩
    have n12 := hh.n12; have kn := hh.kn
    have b1 := nck_pos kn
    have b2 := nck_le n12 (show k ≤ 12 by omega)
    refine ⟨iV many, rfl, many, rfl, by omega, by omega, fun D nD => ?_⟩
    refine lc_range (lo := 0) (n := many) (fun i G => ∃ cs : List Nat, cs.length = i ∧ (∀ x ∈ cs, x < nck n k) ∧ G D = some (.lst (cs.map iV)) ∧ Kq r H G ∧ Rw K r a ns G) ⟨[], rfl, (fun x hx => by cases hx), upd_same, Kq.ex (Ex.new nD), W.ex (Ex.new nD)⟩ (fun i G hi w => ?_) (fun G w => ?_)
    · obtain ⟨cs, cl, co, gD, kG, WG⟩ := w
      have hhG := hh.kq W kG
      refine ⟨rfl, yes_go ?_⟩
      refine ⟨.ref r, rfl, .ref hs, rfl, hs, _, _, .int n, rfl, rfl, SqT.of hhG.at_, atI_nat (j := 0) rfl, .ref hs, rfl, hs, _, _, .int k, rfl, rfl, SqT.of hhG.at_, atI_nat (j := 1) rfl, n, k, rfl, n12, kn, ?_⟩
      refine taken_of (m := nck n k) WG rfl (by omega) (by omega) fun x1 G1 l1 k1 W1 => ?_
      have nDr := W.ne nD
      have gD1 := k1 _ _ nDr gD
      refine ⟨_, gD1, ?_, cs ++ [x1], by rw [List.length_append, cl] <;> rfl, fun x hx => ?_, by rw [upd_same, List.map_append] <;> rfl, (kG.trans k1).put nD, W1.put W nD gD1⟩
      · rw [List.length_map, cl]
        exact Nat.lt_of_lt_of_le hi (Nat.le_trans hm (by decide))
      · rcases List.mem_append.mp hx with z | z
        · exact co x z
        · rw [List.mem_singleton.mp z]
          exact l1
    · obtain ⟨cs, cl, co, gD, kG, WG⟩ := w
      refine ⟨D, _, rfl, .inl ⟨SqL.of gD, fun t nt => ?_⟩⟩
      have et := Ex.new (o := HO.tup (cs.map iV)) nt
      exact q t cs _ upd_same cl co (kG.trans (Kq.ex et)) (WG.ex et)
end
end K04

set_option maxHeartbeats 4000000
namespace K04
open PySem PySem.Spec PyProof.Rows L2 Hd Evl
section
variable {CX : CXT} {P : Program} {w : World} {K : PySem.W.Frag} {mg : Str → Option Value} {base : Heap}
/-! #### a life -/
structure LifeP (K : PySem.W.Frag) (vs : List V) (H : Hp) (Q : VK) : Prop where
  go : ∃ (r a hs : Addr) (ns : List Int) (n k d p c most : Nat), vs = [.ref r, .ref hs, iV most] ∧ Rw K r a ns H ∧ HouseAt H hs n k d p c ∧ most ≤ 1000 ∧ ∀ (t : Addr) (L : LifeT) (H' : Hp), Tv H' (.ref t) (lifeP L) → OkLife d p most L → Kq r H H' → Rw K r a ns H' → Q (.ref t) H'
def spLifeL (K : PySem.W.Frag) : Sp := fun vs H Q _ => LifeP K vs H Q
theorem lenT_app (L : LifeT) (s : Nat × StoryT) : lenT (L ++ [s]) = lenT L + s.2.length := by simp [lenT]
theorem ok_lifeL {f fT fM : Addr} {fd fdT fdM : FuncData} (F : FnP K "_law_life" s__law_life f fd) (B : Blt mg) (T : TakenF P w K mg base fT fdT) (TM : Fn P w K mg base CX0 2 "_law_moment" ["row", "house", "deepest", "most"] (spMom K) fM fdM) : FnOk P w K mg base CX 3 f fd ["row", "house", "moments"] (spLifeL K) := by
  refine F.ok (CX := CX) sc__law_life (fun vs H Q E h => ?_) (fun cdv A outer s H vs Q E hr h => ?_)
  · obtain ⟨r, a, hs, ns, n, k, d, p, c, most, rfl, _⟩ := h
    rfl
  · obtain ⟨r, a, hs, ns, n, k, d, p, c, most, rfl, W, hh, hm, q⟩ := h
    have h1 := hr.mono (show 1 ≤ 2 by decide)
    refine ⟨_, (pss_cons (ps_par (i := 3) (j := 4) (by rfl) sc__law_life.nd rfl rfl (by decide) rfl rfl (pa_cons (pe_lst pa_nil) (pa_cons (pv 2) pa_nil)) (by rfl))
    (pss_cons (ps_for (passes_of rfl) rfl (pi_range1 (by rfl) B.range (pa_cons (pe_op op_add pe_int (pe_call T.G h1 (by rfl) T.m T.k T.b .nil pass0 (pa_cons (pv 0) (pa_cons pe_int pa_nil)))) pa_nil)) (pg_name (i := 5) sc__law_life.nd rfl (Or.inl rfl)) (pss_cons (ps_asg (pe_tup (pa_cons (pe_call T.G h1 (by rfl) T.m T.k T.b .nil pass0 (pa_cons (pv 0) (pa_cons (pe_ix ix_tup (pv 1) pe_int (fun _ _ => rfl)) pa_nil))) (pa_cons (pe_call T.G h1 (by rfl) T.m T.k T.b .nil pass0 (pa_cons (pv 0) (pa_cons (pe_op op_add (pv 4) pe_int) pa_nil))) pa_nil))) (pg_tup rfl (pgs_cons (pg_name (i := 6) sc__law_life.nd rfl (Or.inr rfl)) (pgs_cons (pg_name (i := 7) sc__law_life.nd rfl (Or.inl rfl)) pgs_nil))))
    (pss_cons (ps_expr (pe_bm PySem.F.plainAttrs_list PySem.F.slot_list_append PySem.F.type_list_append mt_append (pv 3) (pa_cons (pe_tup (pa_cons (pv 6) (pa_cons (pe_callTy call_tuple_of (by rfl) B.tuple (by decide +kernel) (pa_cons (pe_lc (own := [("j", 8)]) (g := gName 8) (by rfl) sc__law_life.nd (pi_range1 (by rfl) B.range (pa_cons (pv 7) pa_nil)) (blkOk_by (own := [("j", 8)]) (N := n__law_life) (sc := defScope s__law_life) (by decide +kernel)) (fun _ _ _ _ _ => pg_name (i := 8) sc__law_life.nd rfl (Or.inl rfl)) (fun _ _ _ _ _ => pts_nil) (fun _ _ _ _ _ => (pe_call TM.G hr (by rfl) TM.m TM.k TM.b .nil pass0 (pa_cons (pv 0) (pa_cons (pv 1) (pa_cons (pv 6) (pa_cons pe_int pa_nil))))))) pa_nil)) pa_nil))) pa_nil)))
    (pss_one (ps_set (i := 4) sc__law_life.nd rfl (Or.inl rfl) (pe_op op_sub (pv 4) (pv 7)))))))
    (pss_one (ps_ret (pe_callTy call_tuple_of (by rfl) B.tuple (by decide +kernel) (pa_cons (pv 3) pa_nil)))))), ?_⟩
    have d4 := hh.d4
    refine ⟨Nat.zero_le _, fun F nF => ⟨iV most, rfl, _, _, rfl, ?_⟩⟩
    have eF := Ex.new (o := HO.lst []) nF
    have nFr := W.ne nF
    have W1 := W.ex eF
    refine ⟨.ref r, rfl, taken_of (m := 3) W1 rfl (by decide) (by decide) fun x0 H2 l0 k0 W2 => ⟨_, _, rfl, rfl, 1 + (x0 : Int), rfl, by omega, by omega, ?_⟩⟩
    rw [show (1 + (x0 : Int)).toNat = 1 + x0 by omega]
    refine for_range (lo := 0) (n := 1 + x0) (fun i σ G => ∃ (L : LifeT) (left : Nat) (ws : List V) (y5 y6 y7 : Option V), L.length = i ∧ (∀ s ∈ L, OkSess d p s) ∧ left + lenT L = most ∧ σ = [some (.ref r), some (.ref hs), some (iV most), some (.ref F), some (iV left), y5, y6, y7, none] ∧ G F = some (.lst ws) ∧ TvAll G ws (L.map sessP) ∧ Kq r H G ∧ Rw K r a ns G)
      ⟨[], most, [], none, none, none, rfl, (fun s hs => by cases hs), rfl, rfl, k0 _ _ nFr upd_same, .nil, (Kq.ex eF).trans k0, W2⟩ (fun i σ G hi w => ?_) (fun σ G w => ?_)
    · obtain ⟨L, left, ws, y5, y6, y7, Ll, Lo, Le, rfl, gF, tv, kG, WG⟩ := w
      have hhG := hh.kq W kG
      refine ⟨.ref r, rfl, .ref hs, rfl, hs, _, _, .int d, rfl, rfl, SqT.of hhG.at_, atI_nat (j := 2) rfl, taken_of (m := d) WG rfl hhG.d1 (by omega) fun u G1 lu k1 W3 => ?_⟩
      refine ⟨.ref r, rfl, iV left, rfl, _, _, rfl, rfl, taken_of (m := left + 1) W3 (by omega) (by omega) (by omega) fun mm G2 lm k2 W4 => ?_⟩
      refine ⟨by show 2 ≤ sizeLine; decide, fun t2 n2 => ?_⟩
      have e2 := Ex.new (o := HO.tup [iV u, iV mm]) n2
      have W5 := W4.ex e2
      refine ⟨t2, _, rfl, SqT.of upd_same, rfl, _, _, rfl, _, _, rfl, rfl, ?_⟩
      have k12 := (k1.trans k2).trans (Kq.ex (r := r) e2)
      have kA := kG.trans k12
      have hh5 := hh.kq W kA
      have gF5 := k12 _ _ nFr gF
      refine ⟨.ref F, rfl, .inl ⟨rfl, _, SqL.of gF5⟩, iV u, rfl, iV mm, rfl, mm, rfl, by omega, by omega, fun D nD => ?_⟩
      refine lc_range (lo := 0) (n := mm) (fun j G' => ∃ (st : StoryT) (vs : List V), st.length = j ∧ (∀ m ∈ st, OkMom u p m) ∧ G' D = some (.lst vs) ∧ TvAll G' vs (st.map momP) ∧ Kq r (upd G2 t2 (.tup [iV u, iV mm])) G' ∧ Rw K r a ns G') ⟨[], [], rfl, (fun m hm => by cases hm), upd_same, .nil, Kq.ex (Ex.new nD), W5.ex (Ex.new nD)⟩ (fun j G' hj w => ?_) (fun G' w => ?_)
      · obtain ⟨st, vs, sl, so, gD, tvs, kD, WD⟩ := w
        have hhD := hh5.kq W5 kD
        refine ⟨rfl, yes_go ?_⟩
        refine ⟨.ref r, rfl, .ref hs, rfl, iV u, rfl, r, a, hs, ns, n, k, d, p, c, u, 2, rfl, WD, hhD, lu, by decide, fun tm m G3 tvm om k3 W6 => ?_⟩
        have nDr := W5.ne nD
        have gD3 := k3 _ _ nDr gD
        refine ⟨vs, gD3, ?_, st ++ [m], vs ++ [.ref tm], by rw [List.length_append, sl] <;> rfl, fun x hx => ?_, upd_same, ?_, (kD.trans k3).put nD, W6.put W5 nD gD3⟩
        · rw [tvs.len, List.length_map, sl]
          exact Nat.lt_of_lt_of_le hj (Nat.le_trans (show mm ≤ 1000 by omega) (by decide))
        · rcases List.mem_append.mp hx with z | z
          · exact so x z
          · rw [List.mem_singleton.mp z]
            exact om
        · rw [List.map_append]
          exact ((tvs.mv (k3.kt WD)).app (.cons tvm .nil)).mv (Kt.put gD3)
      · obtain ⟨st, vs, sl, so, gD, tvs, kD, WD⟩ := w
        refine ⟨D, vs, rfl, .inl ⟨SqL.of gD, fun ts nts => ?_⟩⟩
        have es := Ex.new (o := HO.tup vs) nts
        refine ⟨by show 2 ≤ sizeLine; decide, fun tp ntp => ?_⟩
        have ep := Ex.new (o := HO.tup [iV u, .ref ts]) ntp
        have gFD : G' F = some (.lst ws) := kD _ _ nFr gF5
        have gFp := ep _ _ (es _ _ gFD)
        refine ⟨F, ws, _, rfl, rfl, gFp, ?_, ?_⟩
        · rw [tv.len, List.length_map, Ll]
          exact Nat.lt_of_lt_of_le hi (Nat.le_trans (show 1 + x0 ≤ 4 by omega) (by decide))
        refine ⟨iV left, rfl, iV mm, rfl, _, _, rfl, rfl, L ++ [(u, st)], left - mm, ws ++ [.ref tp], some (.int (0 + (i : Int))), some (iV u), some (iV mm), by rw [List.length_append, Ll] <;> rfl, fun s hs => ?_, ?_, ?_, upd_same, ?_, ?_, ?_⟩
        · rcases List.mem_append.mp hs with z | z
          · exact Lo s z
          · rw [List.mem_singleton.mp z]
            exact ⟨lu, so⟩
        · rw [lenT_app, sl]
          omega
        · show [some (V.ref r), some (.ref hs), some (iV most), some (.ref F), some (.int ((left : Int) - (mm : Int))), some (.int (0 + (i : Int))), some (iV u), some (iV mm), none] = _
          rw [show (left : Int) - (mm : Int) = ((left - mm : Nat) : Int) by omega]
        · rw [List.map_append]
          have m1 : Kt G _ := ((k12.kt WG).trans (kD.kt W5)).trans ((Kt.ex es).trans (Kt.ex ep))
          refine TvAll.mv (TvAll.app (tv.mv m1) ?_) (Kt.put gFp)
          exact .cons (.tup upd_same (.cons (.int _) (.cons (.tup (ep _ _ upd_same) ((tvs.mv (Kt.ex es)).mv (Kt.ex ep))) .nil))) .nil
        · exact ((kA.trans kD).trans ((Kq.ex es).trans (Kq.ex ep))).put nF
        · exact ((WD.ex es).ex ep).put W nF gFp
    · obtain ⟨L, left, ws, y5, y6, y7, Ll, Lo, Le, rfl, gF, tv, kG, WG⟩ := w
      refine ⟨.ref F, rfl, F, ws, rfl, .inl ⟨SqL.of gF, fun t nt => ?_⟩⟩
      have et := Ex.new (o := HO.tup ws) nt
      exact q t L _ (.tup upd_same (tv.mv (Kt.ex et))) ⟨by omega, by omega, Lo, by omega⟩ (kG.trans (Kq.ex et)) (WG.ex et)
end
end K04

set_option maxHeartbeats 4000000
namespace K04
open PySem PySem.Spec PyProof.Rows L2 Hd Evl
theorem Kq.ofNew {D : Addr} {H H1 : Hp} (k : Kq D H H1) (n : H D = none) : Ex H H1 := fun b o h => k b o (ne_of_none h n) h
theorem tv_tup {H : Hp} {v : V} {ds : List PyData} (h : Tv H v (.tuple ds)) : ∃ a xs, v = .ref a ∧ H a = some (.tup xs) ∧ TvAll H xs ds := by
  cases h with
  | tup ha all => exact ⟨_, _, rfl, ha, all⟩
theorem tv_ref {H : Hp} {a : Addr} {ds : List PyData} (h : Tv H (.ref a) (.tuple ds)) : ∃ xs, H a = some (.tup xs) ∧ TvAll H xs ds := by
  cases h with
  | tup ha all => exact ⟨_, ha, all⟩
theorem tv_int {H : Hp} {v : V} {n : Nat} (h : Tv H v (intP n)) : v = iV n := by
  have h' : Tv H v (.int (n : Int)) := h
  cases h'
  rfl
/-- the i-th of a mapped list -/
theorem tv_at {α : Type} {H : Hp} {xs : List V} {L : List α} {f : α → PyData} {i : Nat} {v : V} (h : TvAll H xs (L.map f)) (e : xs[i]? = some v) : ∃ x, L[i]? = some x ∧ Tv H v (f x) := by
  obtain ⟨d, a, b⟩ := h.at_ e
  rw [List.getElem?_map] at a
  obtain ⟨x, hx, rfl⟩ := Option.map_eq_some_iff.mp a
  exact ⟨x, hx, b⟩
theorem tv_sess {H : Hp} {v : V} {s : Nat × StoryT} (h : Tv H v (sessP s)) : ∃ t u us, v = .ref t ∧ H t = some (.tup [iV s.1, .ref u]) ∧ H u = some (.tup us) ∧ TvAll H us (s.2.map momP) := by
  obtain ⟨t, xs, rfl, ht, all⟩ := tv_tup h
  cases all with
  | cons h1 h2 =>
    cases h2 with
    | cons h3 h4 =>
      cases h4
      obtain rfl := tv_int h1
      obtain ⟨u, us, rfl, hu, a2⟩ := tv_tup h3
      exact ⟨t, u, us, rfl, ht, hu, a2⟩
theorem tv_deed {H : Hp} {v : V} {x : DeedT} (h : Tv H v (deedP x)) : ∃ t, v = .ref t ∧ H t = some (.tup [iV x.1, iV x.2.1, iV x.2.2]) := by
  obtain ⟨t, xs, rfl, ht, all⟩ := tv_tup h
  cases all with
  | cons h1 h2 =>
    cases h2 with
    | cons h3 h4 =>
      cases h4 with
      | cons h5 h6 =>
        cases h6
        obtain rfl := tv_int h1
        obtain rfl := tv_int h3
        obtain rfl := tv_int h5
        exact ⟨t, rfl, ht⟩
/-- a life as it is for the keys 0 to u -/
def upM (u : Nat) (m : MomT) : MomT := m.filter fun x => decide (x.1 ≤ u)
def upT (u : Nat) (L : LifeT) : LifeT := L.map fun s => (min s.1 u, s.2.map (upM u))
theorem take_snoc {α : Type} {L : List α} {i : Nat} {x : α} (h : L[i]? = some x) : L.take (i + 1) = L.take i ++ [x] := by rw [List.take_succ, h] <;> rfl
section
variable {CX : CXT} {P : Program} {w : World} {K : PySem.W.Frag} {mg : Str → Option Value} {base : Heap}
/-! #### how many moments -/
def spLength : Sp := fun vs H Q _ => ∃ (t : Addr) (L : LifeT), vs = [.ref t] ∧ Tv H (.ref t) (lifeP L) ∧ (∀ s ∈ L, s.2.length ≤ 1000) ∧ L.length ≤ 1000 ∧ ∀ H', Ex H H' → Q (iV (lenT L)) H'
theorem ok_length {f : Addr} {fd : FuncData} (F : FnP K "_law_length" s__law_length f fd) (B : Blt mg) : FnOk P w K mg base CX 1 f fd ["life"] spLength := by
  refine F.ok (CX := CX) sc__law_length (fun vs H Q E h => ?_) (fun cdv A outer s H vs Q E hr h => ?_)
  · obtain ⟨t, L, rfl, _⟩ := h
    rfl
  · obtain ⟨t, L, rfl, tv, b1, b2, q⟩ := h
    refine ⟨_, (pss_one (ps_ret (pe_callB (cr_sum rfl) (by rfl) B.sum (by decide +kernel) (pa_cons (pe_lc (own := [("one", 1)]) (g := gName 1) (by rfl) sc__law_length.nd (pi_tup (pv 0)) (blkOk_by (own := [("one", 1)]) (N := n__law_length) (sc := defScope s__law_length) (by decide +kernel)) (fun _ _ _ _ _ => pg_name (i := 1) sc__law_length.nd rfl (Or.inl rfl)) (fun _ _ _ _ _ => pts_nil)
      (fun _ _ _ _ _ => (pe_callB (call_len_seq : CallR _ _ (rLenK K)) (by rfl) B.len (by decide +kernel) (pa_cons (pe_ix (ix_tup : IxR _ (rIxT K)) (pv 1) pe_int (fun _ _ => rfl)) pa_nil)))) pa_nil)))), ?_⟩
    obtain ⟨ss, hs, all⟩ := tv_ref tv
    have hl : ss.length = L.length := by rw [all.len, List.length_map]
    refine ⟨.ref t, rfl, t, rfl, ⟨ss, SqT.of hs⟩, fun D nD => ?_⟩
    refine lc_tup (xs := ss) (fun i G => G D = some (.lst (((L.take i).map fun s => ((s.2.length : Nat) : Int)).map V.int)) ∧ Kq D H G) ⟨upd_same, Kq.row⟩ (fun i G _ w => SqT.of (w.2.ofNew nD _ _ hs)) (fun i x G hx w => ?_) (fun G w => ?_)
    · obtain ⟨gD, kG⟩ := w
      obtain ⟨sx, hsx, tvx⟩ := tv_at all hx
      obtain ⟨tt, u, us, rfl, h1, h2, h3⟩ := tv_sess tvx
      have e := kG.ofNew nD
      have il : i < L.length := (List.getElem?_eq_some_iff.mp hsx).1
      refine ⟨rfl, yes_go ⟨.ref tt, rfl, tt, _, _, .ref u, rfl, rfl, SqT.of (e _ _ h1), atI_nat (j := 1) rfl, u, us, rfl, .inr (SqT.of (e _ _ h2)), _, gD, ?_, ?_, kG.trans Kq.row⟩⟩
      · rw [List.length_map, List.length_map, List.length_take]
        exact Nat.lt_of_le_of_lt (Nat.min_le_left _ _) (Nat.lt_of_lt_of_le il (Nat.le_trans b2 (by decide)))
      · rw [upd_same, take_snoc hsx, List.map_append, List.map_append, h3.len, List.length_map] <;> rfl
    · obtain ⟨gD, kG⟩ := w
      rw [hl, List.take_length] at gD
      refine ⟨D, _, rfl, SqL.of gD, ?_⟩
      have es : ((L.map fun s => ((s.2.length : Nat) : Int))).sum = ((lenT L : Nat) : Int) := by
        unfold lenT
        induction L with
        | nil => rfl
        | cons x r ih =>
          simp only [List.map_cons, List.sum_cons]
          have e1 : ∀ M : LifeT, (M.map fun s => ((s.2.length : Nat) : Int)).sum = (((M.map fun s => s.2.length).sum : Nat) : Int) := fun M => by
            induction M with
            | nil => rfl
            | cons y z ih2 => simp only [List.map_cons, List.sum_cons, ih2]; push_cast; rfl
          rw [e1 r]
          push_cast
          rfl
      rw [es]
      exact q G (kG.ofNew nD)
/-! #### the law's upper -/
def spUpL : Sp := fun vs H Q _ => ∃ (t : Addr) (L : LifeT) (u : Nat), vs = [.ref t, iV u] ∧ Tv H (.ref t) (lifeP L) ∧ (∀ s ∈ L, s.2.length ≤ 1000 ∧ ∀ m ∈ s.2, m.length ≤ 1000) ∧ L.length ≤ 1000 ∧ ∀ (t' : Addr) H', Tv H' (.ref t') (lifeP (upT u L)) → Ex H H' → Q (.ref t') H'
theorem filter_snoc {m : MomT} {i : Nat} {x : DeedT} (u : Nat) (h : m[i]? = some x) : upM u (m.take (i + 1)) = upM u (m.take i) ++ (if x.1 ≤ u then [x] else []) := by
  unfold upM
  rw [take_snoc h, List.filter_append]
  by_cases c : x.1 ≤ u
  · rw [if_pos c]
    simp [c]
  · rw [if_neg c]
    simp [c]
theorem ok_upL {f : Addr} {fd : FuncData} (F : FnP K "_law_upper" s__law_upper f fd) (B : Blt mg) : FnOk P w K mg base CX 1 f fd ["life", "drawer"] spUpL := by
  refine F.ok (CX := CX) sc__law_upper (fun vs H Q E h => ?_) (fun cdv A outer s H vs Q E hr h => ?_)
  · obtain ⟨t, L, u, rfl, _⟩ := h
    rfl
  · obtain ⟨t, L, u, rfl, tv, b1, b2, q⟩ := h
    refine ⟨_, (pss_cons (ps_set (i := 2) sc__law_upper.nd rfl (Or.inl rfl) (pe_lst pa_nil))
    (pss_cons (ps_for (passes_of rfl) rfl (pi_tup (pv 0)) (pg_tup rfl (pgs_cons (pg_name (i := 3) sc__law_upper.nd rfl (Or.inl rfl)) (pgs_cons (pg_name (i := 4) sc__law_upper.nd rfl (Or.inl rfl)) pgs_nil))) (pss_one (ps_expr (pe_bm PySem.F.plainAttrs_list PySem.F.slot_list_append PySem.F.type_list_append mt_append (pv 2) (pa_cons (pe_tup (pa_cons (pe_callB (call_min2 rfl) (by rfl) B.min (by decide +kernel) (pa_cons (pv 3) (pa_cons (pv 1) pa_nil))) (pa_cons (pe_callTy call_tuple_of (by rfl) B.tuple (by decide +kernel) (pa_cons (pe_lc (own := [("moment", 5)]) (g := gName 5) (by rfl) sc__law_upper.nd (pi_tup (pv 4)) (blkOk_by (own := [("moment", 5)]) (N := n__law_upper) (sc := defScope s__law_upper) (by decide +kernel)) (fun _ _ _ _ _ => pg_name (i := 5) sc__law_upper.nd rfl (Or.inl rfl)) (fun _ _ _ _ _ => pts_nil)
      (fun _ _ _ _ _ => (pe_callTy (call_tuple_of : CallR _ _ (fun xs H Q => ∃ p ys, xs = [.ref p] ∧ ((SqL K H p ys ∧ ∀ l, H l = none → Q (.ref l) (upd H l (.tup ys))) ∨ (SqT K H p ys ∧ Q (.ref p) H)))) (by rfl) B.tuple (by decide +kernel) (pa_cons (pe_lc (own := [("one", 6)]) (g := gName 6) (by rfl) sc__law_upper.nd (pi_tup (pv 5) : PI _ _ _ (iTup K (tVar 5))) (blkOk_by (own := [("one", 6)]) (by kernel_rfl)) (fun _ _ _ _ _ => pg_name (i := 6) sc__law_upper.nd rfl (Or.inl rfl)) (fun _ _ _ _ _ => pts_one (pt_cmpR op_le (pe_ix (ix_tup : IxR _ (rIxT K)) (pv 6) pe_int (fun _ _ => rfl)) (pv 1) (nomark _))) (fun _ _ _ _ _ => (pv 6))) pa_nil)))) pa_nil)) pa_nil))) pa_nil)))))
    (pss_one (ps_ret (pe_callTy call_tuple_of (by rfl) B.tuple (by decide +kernel) (pa_cons (pv 2) pa_nil)))))), ?_⟩
    obtain ⟨ss, hs, all⟩ := tv_ref tv
    have hl : ss.length = L.length := by rw [all.len, List.length_map]
    refine ⟨Nat.zero_le _, fun F nF => ⟨.ref t, rfl, t, rfl, ⟨ss, SqT.of ((Ex.new (o := HO.lst []) nF) _ _ hs)⟩, ?_⟩⟩
    refine for_tup (xs := ss) (fun i σ G => ∃ (ws : List V) (y3 y4 : Option V), σ = [some (.ref t), some (iV u), some (.ref F), y3, y4, none, none] ∧ G F = some (.lst ws) ∧ TvAll G ws ((upT u (L.take i)).map sessP) ∧ Kq F H G) ⟨[], none, none, rfl, upd_same, .nil, Kq.row⟩ (fun i σ G _ w => by obtain ⟨_, _, _, _, _, _, k⟩ := w; exact SqT.of (k.ofNew nF _ _ hs)) (fun i x σ G hx w => ?_) (fun σ G w => ?_)
    · obtain ⟨ws, y3, y4, rfl, gF, tvw, kG⟩ := w
      obtain ⟨sx, hsx, tvx⟩ := tv_at all hx
      have il : i < L.length := (List.getElem?_eq_some_iff.mp hsx).1
      obtain ⟨bs, bm⟩ := b1 sx (List.mem_of_getElem? hsx)
      have eG := kG.ofNew nF
      obtain ⟨tt, su, us, rfl, h1, h2, h3⟩ := tv_sess (tvx.mv (Kt.ex eG))
      have hul : us.length = sx.2.length := by rw [h3.len, List.length_map]
      refine ⟨tt, _, rfl, SqT.of h1, rfl, _, _, rfl, _, _, rfl, rfl, .ref F, rfl, .inl ⟨rfl, _, SqL.of gF⟩, iV sx.1, rfl, iV u, rfl, _, _, rfl, .ref su, rfl, su, rfl, ⟨us, SqT.of h2⟩, fun D nD => ?_⟩
      have nFD : F ≠ D := ne_of_none gF nD
      refine lc_tup (xs := us) (fun j G' => ∃ vs, G' D = some (.lst vs) ∧ TvAll G' vs (((sx.2.take j).map (upM u)).map momP) ∧ Kq D G G') ⟨[], upd_same, .nil, Kq.row⟩ (fun j G' _ w => by obtain ⟨_, _, _, k⟩ := w; exact SqT.of (k.ofNew nD _ _ h2)) (fun j y G' hy w => ?_) (fun G' w => ?_)
      · obtain ⟨vs, gD, tvs, kD⟩ := w
        obtain ⟨m, hm, tvm⟩ := tv_at h3 hy
        have jl : j < sx.2.length := (List.getElem?_eq_some_iff.mp hm).1
        have bmm := bm m (List.mem_of_getElem? hm)
        have eD := kD.ofNew nD
        obtain ⟨mt, ds, rfl, hmt, a3⟩ := tv_tup (tvm.mv (Kt.ex eD))
        refine ⟨rfl, yes_go ⟨.ref mt, rfl, mt, rfl, ⟨ds, SqT.of hmt⟩, fun D3 n3 => ?_⟩⟩
        refine lc_tup (xs := ds) (fun l G3 => ∃ zs, G3 D3 = some (.lst zs) ∧ TvAll G3 zs ((upM u (m.take l)).map deedP) ∧ Kq D3 G' G3) ⟨[], upd_same, .nil, Kq.row⟩ (fun l G3 _ w => by obtain ⟨_, _, _, k⟩ := w; exact SqT.of (k.ofNew n3 _ _ hmt)) (fun l z G3 hz w => ?_) (fun G3 w => ?_)
        · obtain ⟨zs, g3, tvz, k3⟩ := w
          obtain ⟨x, hx3, tvx3⟩ := tv_at a3 hz
          have ll : l < m.length := (List.getElem?_eq_some_iff.mp hx3).1
          have e3 := k3.ofNew n3
          have tvx4 := tvx3.mv (Kt.ex e3)
          obtain ⟨dt, rfl, hdt⟩ := tv_deed tvx4
          refine ⟨rfl, .ref dt, rfl, dt, _, _, iV x.1, rfl, rfl, SqT.of hdt, atI_nat (j := 0) rfl, iV u, rfl, _, _, rfl, rfl, _, rfl, ite2 (fun c => ?_) (fun c => ?_)⟩
          · have c' : x.1 ≤ u := by have := of_decide_eq_true c; omega
            refine ⟨.ref dt, rfl, zs, g3, ?_, zs ++ [.ref dt], upd_same, ?_, k3.trans Kq.row⟩
            · rw [tvz.len, List.length_map]
              refine Nat.lt_of_le_of_lt (List.length_filter_le _ _) ?_
              rw [List.length_take]
              exact Nat.lt_of_le_of_lt (Nat.min_le_left _ _) (Nat.lt_of_lt_of_le ll (Nat.le_trans bmm (by decide)))
            · rw [filter_snoc u hx3, if_pos c', List.map_append]
              exact (tvz.app (.cons tvx4 .nil)).mv (Kt.put g3)
          · have c' : ¬ x.1 ≤ u := fun z => c (decide_eq_true (by omega))
            refine ⟨zs, g3, ?_, k3⟩
            rw [filter_snoc u hx3, if_neg c', List.append_nil]
            exact tvz
        · obtain ⟨zs, g3, tvz, k3⟩ := w
          have dl : ds.length = m.length := by rw [a3.len, List.length_map]
          rw [dl, List.take_length] at tvz
          have e3 := k3.ofNew n3
          refine ⟨D3, zs, rfl, .inl ⟨SqL.of g3, fun tm ntm => ?_⟩⟩
          have em := Ex.new (o := HO.tup zs) ntm
          have gD4 := em _ _ (e3 _ _ gD)
          refine ⟨vs, gD4, ?_, vs ++ [.ref tm], upd_same, ?_, ((kD.trans (Kq.ex e3)).trans (Kq.ex em)).trans Kq.row⟩
          · rw [tvs.len, List.length_map, List.length_map, List.length_take]
            exact Nat.lt_of_le_of_lt (Nat.min_le_left _ _) (Nat.lt_of_lt_of_le jl (Nat.le_trans bs (by decide)))
          · rw [take_snoc hm, List.map_append, List.map_append]
            refine TvAll.mv (TvAll.app ((tvs.mv (Kt.ex e3)).mv (Kt.ex em)) ?_) (Kt.put gD4)
            exact .cons (.tup upd_same (tvz.mv (Kt.ex em))) .nil
      · obtain ⟨vs, gD, tvs, kD⟩ := w
        rw [hul, List.take_length] at tvs
        have eD := kD.ofNew nD
        refine ⟨D, vs, rfl, .inl ⟨SqL.of gD, fun ts nts => ?_⟩⟩
        have es := Ex.new (o := HO.tup vs) nts
        refine ⟨by show 2 ≤ sizeLine; decide, fun tp ntp => ?_⟩
        obtain ⟨mn, hmn⟩ : ∃ mn : Nat, (if ((u : Nat) : Int) < ((sx.1 : Nat) : Int) then ((u : Nat) : Int) else ((sx.1 : Nat) : Int)) = (mn : Int) ∧ mn = min sx.1 u := by
          by_cases z : ((u : Nat) : Int) < ((sx.1 : Nat) : Int)
          · exact ⟨u, by rw [if_pos z], by omega⟩
          · exact ⟨sx.1, by rw [if_neg z], by omega⟩
        rw [hmn.1]
        have ep := Ex.new (o := HO.tup [iV mn, .ref ts]) ntp
        have gFp := ep _ _ (es _ _ (eD _ _ gF))
        refine ⟨F, ws, _, rfl, rfl, gFp, ?_, ws ++ [.ref tp], some (iV sx.1), some (.ref su), rfl, upd_same, ?_, ?_⟩
        · rw [tvw.len, List.length_map, upT, List.length_map, List.length_take]
          exact Nat.lt_of_le_of_lt (Nat.min_le_left _ _) (Nat.lt_of_lt_of_le il (Nat.le_trans b2 (by decide)))
        · unfold upT
          rw [take_snoc hsx, List.map_append, List.map_append]
          have m1 : Kt G _ := (Kt.ex eD).trans ((Kt.ex es).trans (Kt.ex ep))
          refine TvAll.mv (TvAll.app (tvw.mv m1) ?_) (Kt.put gFp)
          refine .cons ?_ .nil
          show Tv _ _ (sessP (min sx.1 u, sx.2.map (upM u)))
          rw [← hmn.2]
          exact .tup upd_same (.cons (.int _) (.cons (.tup (ep _ _ upd_same) ((tvs.mv (Kt.ex es)).mv (Kt.ex ep))) .nil))
        · exact (((kG.trans (Kq.ex eD)).trans (Kq.ex es)).trans (Kq.ex ep)).trans Kq.row
    · obtain ⟨ws, y3, y4, rfl, gF, tvw, kG⟩ := w
      rw [hl, List.take_length] at tvw
      refine ⟨.ref F, rfl, F, ws, rfl, .inl ⟨SqL.of gF, fun t' nt => ?_⟩⟩
      have et := Ex.new (o := HO.tup ws) nt
      exact q t' _ (.tup upd_same (tvw.mv (Kt.ex et))) ((kG.ofNew nF).trans et)
end
end K04

set_option maxHeartbeats 4000000
namespace K04
open PySem PySem.Spec PyProof.Rows L2 Hd Evl
/-! ### a Store on the heap -/
def wayS : Way → Str
  | .tru => "true"
  | .free => "free"
  | .idle => "idle"
  | .kept => "kept"
  | .need => "need"
  | .lower => "lower"
theorem way_is (w u : Way) : decide (V.str (wayS w) = V.str (wayS u)) = decide (w = u) := by
  cases w <;> cases u <;> decide +kernel
/-- where a Store's parts lie -/
structure SA where
  dx : Addr
  c : Addr
  k : Addr
  r : Addr
  rs : List Addr
  way : Way
  pages : Nat
  copies : Nat
def stF (q : SA) : List (Str × V) := [("way", .str (wayS q.way)), ("pages", iV q.pages), ("copies", iV q.copies), ("cells", .ref q.c), ("known", .ref q.k), ("rows", .ref q.r)]
section
variable {q : SA}
theorem st_way : (stF q).lookup ("way" : Str) = some (.str (wayS q.way)) := rfl
theorem st_pages : (stF q).lookup ("pages" : Str) = some (iV q.pages) := rfl
theorem st_copies : (stF q).lookup ("copies" : Str) = some (iV q.copies) := rfl
theorem st_cells : (stF q).lookup ("cells" : Str) = some (.ref q.c) := rfl
theorem st_known : (stF q).lookup ("known" : Str) = some (.ref q.k) := rfl
theorem st_rows : (stF q).lookup ("rows" : Str) = some (.ref q.r) := rfl
theorem st_putK {k : Addr} : putF "known" (.ref k) (stF q) = stF { q with k := k } := rfl
theorem st_putR {r : Addr} : putF "rows" (.ref r) (stF q) = stF { q with r := r } := rfl
end
/-- what a mutating method may change: the object, its cells, what is known, its rows -/
def Foot (a : Addr) (q : SA) (b : Addr) : Prop := b = a ∨ b = q.c ∨ b = q.k ∨ b = q.r ∨ b ∈ q.rs
structure StR (C a : Addr) (q : SA) (s : StT) (n : Nat) (H : Hp) : Prop where
  ob : H a = some (.ins C q.dx (stF q))
  cs : ∃ vs, H q.c = some (.lst vs) ∧ TvAll H vs (s.cells.map cellP)
  kn : KnAt H q.k s.known n
  rw : H q.r = some (.lst (q.rs.map V.ref))
  ro : Paired (fun b row => H b = some (.lst (row.map iV))) q.rs s.rows
  nd : (q.c :: q.r :: q.rs).Nodup
section
variable {C a : Addr} {q : SA} {s : StT} {n : Nat} {H H1 : Hp}
theorem paired_mem {α β : Type} {R : α → β → Prop} : ∀ {xs : List α} {ys : List β} {x : α}, Paired R xs ys → x ∈ xs → ∃ y ∈ ys, R x y
  | _, _, _, .nil, h => by cases h
  | _, _, _, .cons r t, h => by
    rcases List.mem_cons.mp h with e | h
    · subst e
      exact ⟨_, List.mem_cons_self .., r⟩
    · obtain ⟨y, hy, hr⟩ := paired_mem t h
      exact ⟨y, List.mem_cons_of_mem _ hy, hr⟩
/-- the parts are lists, a dict, an object: no tuples, no tables -/
theorem StR.kind (R : StR C a q s n H) {b : Addr} (f : Foot a q b) : ∃ o, H b = some o ∧ (∀ xs, o ≠ .tup xs) ∧ (∀ ps, o ≠ .tbl ps) := by
  rcases f with rfl | rfl | rfl | rfl | f
  · exact ⟨_, R.ob, (fun _ z => by cases z), (fun _ z => by cases z)⟩
  · obtain ⟨vs, h, _⟩ := R.cs
    exact ⟨_, h, (fun _ z => by cases z), (fun _ z => by cases z)⟩
  · obtain ⟨kvs, h, _⟩ := R.kn.go
    exact ⟨_, h, (fun _ z => by cases z), (fun _ z => by cases z)⟩
  · exact ⟨_, R.rw, (fun _ z => by cases z), (fun _ z => by cases z)⟩
  · obtain ⟨row, _, h⟩ := paired_mem R.ro f
    exact ⟨_, h, (fun _ z => by cases z), (fun _ z => by cases z)⟩
theorem StR.notup (R : StR C a q s n H) {b : Addr} (f : Foot a q b) (xs : List V) : H b ≠ some (.tup xs) := fun e => by
  obtain ⟨o, h, t, _⟩ := R.kind f
  rw [h] at e
  exact t xs (Option.some.inj e)
theorem StR.notbl (R : StR C a q s n H) {b : Addr} (f : Foot a q b) (ps : Array Value) : H b ≠ some (.tbl ps) := fun e => by
  obtain ⟨o, h, _, t⟩ := R.kind f
  rw [h] at e
  exact t ps (Option.some.inj e)
theorem StR.new (R : StR C a q s n H) {D b : Addr} (f : Foot a q b) (nD : H D = none) : b ≠ D := by
  obtain ⟨o, h, _⟩ := R.kind f
  exact ne_of_none h nD
/-- the object, the dict and the lists stand apart -/
theorem StR.ne_ac (R : StR C a q s n H) : a ≠ q.c := by
  obtain ⟨vs, h, _⟩ := R.cs
  exact ne_of R.ob h (fun z => by cases z)
theorem StR.ne_ak (R : StR C a q s n H) : a ≠ q.k := by
  obtain ⟨vs, h, _⟩ := R.kn.go
  exact ne_of R.ob h (fun z => by cases z)
theorem StR.ne_ar (R : StR C a q s n H) : a ≠ q.r := ne_of R.ob R.rw (fun z => by cases z)
theorem StR.ne_as (R : StR C a q s n H) {b : Addr} (m : b ∈ q.rs) : a ≠ b := by
  obtain ⟨row, _, h⟩ := paired_mem R.ro m
  exact ne_of R.ob h (fun z => by cases z)
theorem StR.ne_kc (R : StR C a q s n H) : q.k ≠ q.c := by
  obtain ⟨vs, h, _⟩ := R.cs
  obtain ⟨kvs, g, _⟩ := R.kn.go
  exact ne_of g h (fun z => by cases z)
theorem StR.ne_kr (R : StR C a q s n H) : q.k ≠ q.r := by
  obtain ⟨kvs, g, _⟩ := R.kn.go
  exact ne_of g R.rw (fun z => by cases z)
theorem StR.ne_ks (R : StR C a q s n H) {b : Addr} (m : b ∈ q.rs) : q.k ≠ b := by
  obtain ⟨row, _, h⟩ := paired_mem R.ro m
  obtain ⟨kvs, g, _⟩ := R.kn.go
  exact ne_of g h (fun z => by cases z)
theorem StR.ne_cr (R : StR C a q s n H) : q.c ≠ q.r := fun e => (List.nodup_cons.mp R.nd).1 (by rw [e]; exact List.mem_cons_self ..)
theorem StR.ne_cs (R : StR C a q s n H) {b : Addr} (m : b ∈ q.rs) : q.c ≠ b := fun e => (List.nodup_cons.mp R.nd).1 (by rw [e]; exact List.mem_cons_of_mem _ m)
theorem StR.ne_rs (R : StR C a q s n H) {b : Addr} (m : b ∈ q.rs) : q.r ≠ b := fun e => (List.nodup_cons.mp (List.nodup_cons.mp R.nd).2).1 (by rw [e]; exact m)
theorem paired_im2 {α β : Type} {R S : α → β → Prop} : ∀ {xs : List α} {ys : List β}, Paired R xs ys → (∀ x ∈ xs, ∀ y, R x y → S x y) → Paired S xs ys
  | _, _, .nil, _ => .nil
  | _, _, .cons r t, h => .cons (h _ (List.mem_cons_self ..) _ r) (paired_im2 t fun x hx y => h x (List.mem_cons_of_mem _ hx) y)
theorem StR.mv (R : StR C a q s n H) (kt : Kt H H1) (e : ∀ b, Foot a q b → ∀ o, H b = some o → H1 b = some o) : StR C a q s n H1 := by
  obtain ⟨vs, h, t⟩ := R.cs
  exact ⟨e _ (.inl rfl) _ R.ob, ⟨vs, e _ (.inr (.inl rfl)) _ h, t.mv kt⟩, R.kn.mv kt (e _ (.inr (.inr (.inl rfl)))), e _ (.inr (.inr (.inr (.inl rfl)))) _ R.rw,
    paired_im2 R.ro fun x hx y h => e x (.inr (.inr (.inr (.inr hx)))) _ h, R.nd⟩
theorem StR.ex (R : StR C a q s n H) (e : Ex H H1) : StR C a q s n H1 := R.mv (Kt.ex e) fun b _ o h => e b o h
end
/-! ### frames with tables -/
structure Kz (K : PySem.W.Frag) (F : Addr → Prop) (H H' : Hp) : Prop where
  e : ∀ b o, ¬ F b → H b = some o → (∀ ps, o ≠ .tbl ps) → H' b = some o
  s : ∀ b o, ¬ F b → ¬ Sk K b → H b = some o → H' b = some o
  g : ∀ P, ¬ F P → GxR.TabG H P → GxR.TabG H' P
section
variable {K : PySem.W.Frag} {F G : Addr → Prop} {H H1 H2 : Hp} {C a : Addr} {q : SA} {s : StT} {n : Nat}
theorem Kz.refl : Kz K F H H := ⟨fun _ _ _ h _ => h, fun _ _ _ _ h => h, fun _ _ h => h⟩
theorem Kz.of (k : Kx F H H1) : Kz K F H H1 := ⟨fun b o f h _ => k b o f h, fun b o f _ h => k b o f h, fun P f ⟨ps, h1, h2⟩ => ⟨ps, k _ _ f h1, h2⟩⟩
theorem Kz.ks (k : Ks K H H1) : Kz K F H H1 := ⟨fun b o _ h t => k.e b o h t, fun b o _ t h => k.s b o t h, fun P _ h => k.g P h⟩
theorem Kz.ex (e : Ex H H1) : Kz K F H H1 := .of (Kx.ex e)
theorem Kz.trans (a : Kz K F H H1) (b : Kz K F H1 H2) : Kz K F H H2 := ⟨fun c u n h t => b.e c u n (a.e c u n h t) t, fun c u n t h => b.s c u n t (a.s c u n t h), fun P n h => b.g P n (a.g P n h)⟩
theorem Kz.wk (k : Kz K F H H1) (h : ∀ b, F b → G b) : Kz K G H H1 := ⟨fun b o n e t => k.e b o (fun z => n (h b z)) e t, fun b o n t e => k.s b o (fun z => n (h b z)) t e, fun P n t => k.g P (fun z => n (h P z)) t⟩
theorem Kz.kt (k : Kz K F H H1) (n : ∀ b, F b → ∀ xs, H b ≠ some (.tup xs)) : Kt H H1 := fun b xs h => k.e b _ (fun f => n b f xs h) h fun ps z => by cases z
/-- what F names was not there: all stays but tables -/
theorem Kz.toKs (k : Kz K F H H1) (n : ∀ b, F b → H b = none) : Ks K H H1 :=
  have f : ∀ b o, H b = some o → ¬ F b := fun b o h z => by rw [n b z] at h; cases h
  ⟨fun b o h t => k.e b o (f b o h) h t, fun b o t h => k.s b o (f b o h) t h, fun P h => k.g P (by obtain ⟨ps, h1, _⟩ := h; exact f P _ h1) h⟩
theorem StR.kz (R : StR C a q s n H) (k : Kz K F H H1) (f : ∀ b, F b → ¬ Foot a q b) (nt : ∀ b, F b → ∀ xs, H b ≠ some (.tup xs)) : StR C a q s n H1 :=
  R.mv (k.kt nt) fun b hb o h => k.e b o (fun z => f b z hb) h fun ps z => R.notbl hb ps (by rw [h, z])
theorem StR.ks (R : StR C a q s n H) (k : Ks K H H1) : StR C a q s n H1 := R.kz (F := fun _ => False) (Kz.ks k) (fun _ z => z.elim) (fun _ z => z.elim)
end
/-- what the walk asks of the class -/
structure StC (K : PySem.W.Frag) (mg : Str → Option Value) (C : Addr) : Prop where
  cl : Cls K C
  way : NoAttr K C "way"
  pages : NoAttr K C "pages"
  copies : NoAttr K C "copies"
  cells : NoAttr K C "cells"
  known : NoAttr K C "known"
  rows : NoAttr K C "rows"
/-- a method as its callers use it -/
structure Me (P : Program) (w : World) (K : PySem.W.Frag) (mg : Str → Option Value) (base : Heap) (CX : CXT) (k : Nat) (C : Addr) (x : Str) (ps : List Str) (sp : Sp) (f : Addr) (fd : FuncData) : Prop where
  G : FnOk P w K mg base CX k f fd ps sp
  m : Meth K C x f
  b : Binds K fd ps []
abbrev MeP (K : PySem.W.Frag) (x q : Str) (st : Stmt) (f : Addr) (fd : FuncData) : Prop := FunD K x q (defArgs st) (defBody st) (defScope st) [] [] f fd
end K04

set_option maxHeartbeats 4000000
namespace K04
open PySem PySem.Spec PyProof.Rows L2 Hd Evl
section
variable {CX : CXT} {P : Program} {w : World} {K : PySem.W.Frag} {mg : Str → Option Value} {base : Heap} {C : Addr}
/-! ### is_live -/
/-- what a look at a cell leans on -/
structure LkR (C a : Addr) (q : SA) (cs : CellsT) (kn : KnownT) (n : Nat) (H : Hp) : Prop where
  ob : H a = some (.ins C q.dx (stF q))
  cs : ∃ vs, H q.c = some (.lst vs) ∧ TvAll H vs (cs.map cellP)
  kn : KnAt H q.k kn n
theorem LkR.ex {a : Addr} {q : SA} {cs : CellsT} {kn : KnownT} {n : Nat} {H H1 : Hp} (R : LkR C a q cs kn n H) (e : Ex H H1) : LkR C a q cs kn n H1 := by
  obtain ⟨vs, h, t⟩ := R.cs
  exact ⟨e _ _ R.ob, ⟨vs, e _ _ h, t.mv (Kt.ex e)⟩, R.kn.ex e⟩
theorem StR.lk {a : Addr} {q : SA} {s : StT} {n : Nat} {H : Hp} (R : StR C a q s n H) : LkR C a q s.cells s.known n H := ⟨R.ob, R.cs, R.kn⟩
theorem st_no {q : SA} {m : Str} (h : m ≠ "way" ∧ m ≠ "pages" ∧ m ≠ "copies" ∧ m ≠ "cells" ∧ m ≠ "known" ∧ m ≠ "rows") : (stF q).lookup m = none := by
  unfold stF
  simp only [List.lookup, beq_eq_false_iff_ne.mpr h.1, beq_eq_false_iff_ne.mpr h.2.1, beq_eq_false_iff_ne.mpr h.2.2.1, beq_eq_false_iff_ne.mpr h.2.2.2.1, beq_eq_false_iff_ne.mpr h.2.2.2.2.1, beq_eq_false_iff_ne.mpr h.2.2.2.2.2]
def spLive (C : Addr) : Sp := fun vs H Q _ => ∃ (a : Addr) (q : SA) (cs : CellsT) (kn : KnownT) (n c : Nat), vs = [.ref a, iV c] ∧ LkR C a q cs kn n H ∧ c < cs.length ∧ ∀ H', Ex H H' → Q (.bl (liveAt kn cs c)) H'
theorem ok_live {f : Addr} {fd : FuncData} (F : MeP K "is_live" "Store.is_live" s_Store_is_live f fd) (T : StC K mg C) : FnOk P w K mg base CX 1 f fd ["self", "cell"] (spLive C) := by
  refine F.ok (CX := CX) sc_Store_is_live (fun vs H Q E h => ?_) (fun cdv A outer s H vs Q E hr h => ?_)
  · obtain ⟨a, q, cs, kn, n, c, rfl, _⟩ := h
    rfl
  · obtain ⟨a, q, cs, kn, n, c, rfl, R, hc, k⟩ := h
    have hu := hu_of hr
    have un : (A.deeper (envOfC "Store.is_live" (defScope s_Store_is_live) s.heap.objs.size f cdv)).units + 64 < cLine := by have := hr.un; omega
    refine ⟨_, (pss_cons (ps_if (pt_cmpR op_isN (pe_ix ix_list (pe_fld (pv 0) rfl) (pv 1) (fun _ _ => rfl)) pe_non (nomark _)) (pss_one (ps_ret pe_bl)) pss_nil)
      (pss_cons (ps_asg (pe_ix ix_list (pe_fld (pv 0) rfl) (pv 1) (fun _ _ => rfl)) (pg_tup rfl (pgs_cons (pg_name (i := 2) sc_Store_is_live.nd rfl (Or.inl rfl)) (pgs_cons (pg_name (i := 3) sc_Store_is_live.nd rfl (Or.inl rfl)) (pgs_cons (pg_name (i := 4) sc_Store_is_live.nd rfl (Or.inl rfl)) (pgs_cons (pg_name (i := 5) sc_Store_is_live.nd rfl (Or.inl rfl)) pgs_nil))))))
      (pss_one (ps_ret (pe_cmpR (op_eqD un) (pe_dget1 hu (pe_fld (pv 0) rfl) (pe_tup (pa_cons (pv 2) (pa_cons (pv 3) pa_nil))) ⟨rfl, rfl, rfl, rfl⟩) (pe_tup (pa_cons (pv 4) (pa_cons (pv 5) pa_nil))) (nomark _)))))), ?_⟩
    obtain ⟨vs, hcs, tv⟩ := R.cs
    obtain ⟨v, hv, tvv⟩ := tvAtD tv (List.getElem?_eq_getElem hc)
    have eD : cs.getD c none = cs[c] := by rw [List.getD_eq_getElem?_getD, List.getElem?_eq_getElem hc]; rfl
    refine ⟨.ref a, rfl, a, C, q.dx, _, _, rfl, R.ob, T.cl, T.cells, st_cells, iV c, rfl, q.c, vs, _, v, rfl, rfl, SqL.of hcs, atI_nat hv, rfl, _, rfl, ?_⟩
    cases eo : cs[c] with
    | none =>
      rw [eo] at tvv
      obtain rfl := tvNone tvv
      have e : liveAt kn cs c = false := by
        unfold liveAt
        rw [eD, eo]
        rfl
      rw [e] at k
      exact iteT (k H fun _ _ z => z)
    | some h =>
      rw [eo] at tvv
      obtain ⟨t, rfl, ht⟩ := tvHeld tvv
      have e : liveAt kn cs c = decide (kn h.1 h.2.1 = some h.2.2) := by
        unfold liveAt
        rw [eD, eo]
        rfl
      refine iteF ⟨.ref a, rfl, a, C, q.dx, _, _, rfl, R.ob, T.cl, T.cells, st_cells, iV c, rfl, q.c, vs, _, .ref t, rfl, rfl, SqL.of hcs, atI_nat hv, t, _, rfl, SqT.of ht, rfl, _, _, rfl, _, _, rfl, _, _, rfl, _, _, rfl, rfl, ?_⟩
      refine ⟨.ref a, rfl, a, C, q.dx, _, _, rfl, R.ob, T.cl, T.known, st_known, q.k, rfl, R.kn.is, iV h.1, rfl, iV h.2.1, rfl, by show 2 ≤ sizeLine; decide, fun b nb => ?_⟩
      have e1 := Ex.new (o := HO.tup [iV h.1, iV h.2.1]) nb
      obtain ⟨o, dg, kv⟩ := (R.kn.ex e1).get (b := b) upd_same
      refine ⟨o, dg, iV h.2.2.1, rfl, iV h.2.2.2, rfl, by show 2 ≤ sizeLine; decide, fun b2 nb2 => ?_⟩
      have e2 := Ex.new (o := HO.tup [iV h.2.2.1, iV h.2.2.2]) nb2
      have kv2 := kv.kt (Kt.ex e2)
      have ek := k _ (fun b o z => e2 _ _ (e1 _ _ z))
      rw [e] at ek
      cases ex : kn h.1 h.2.1 with
      | none =>
        rw [ex] at kv2 ek
        cases o with
        | some v => exact kv2.elim
        | none => exact ⟨.none, pairP h.2.2, .non, (ofPair upd_same).dp' K, rfl, shaped_pair _, ek⟩
      | some x =>
        rw [ex] at kv2 ek
        cases o with
        | none => exact kv2.elim
        | some v =>
          refine ⟨pairP x, pairP h.2.2, Tv.dp' K kv2, (ofPair upd_same).dp' K, shaped_pair _, shaped_pair _, ?_⟩
          rw [eqv_pair]
          rw [show decide (some x = some h.2.2) = decide (x = h.2.2) by simp] at ek
          exact ek
/-! ### learn -/

def spLearn (C : Addr) : Sp := fun vs H Q _ => ∃ (a t : Addr) (q : SA) (kn : KnownT) (n : Nat) (h : Held), vs = [.ref a, .ref t] ∧ H a = some (.ins C q.dx (stF q)) ∧ KnAt H q.k kn n ∧ Tv H (.ref t) (heldP h) ∧ n ≤ 1000 ∧
  ∀ H', KnAt H' q.k (learnH kn h) (n + 1) → Kx (· = q.k) H H' → Q .non H'
theorem ok_learn {f : Addr} {fd : FuncData} (F : MeP K "learn" "Store.learn" s_Store_learn f fd) (T : StC K mg C) : FnOk P w K mg base CX 1 f fd ["self", "held"] (spLearn C) := by
  refine F.ok (CX := CX) sc_Store_learn (fun vs H Q E h => ?_) (fun cdv A outer s H vs Q E hr h => ?_)
  · obtain ⟨a, t, q, kn, n, h, rfl, _⟩ := h
    rfl
  · obtain ⟨a, t, q, kn, n, h, rfl, ob, kd, th, hn, k⟩ := h
    have hu := hu_of hr
    refine ⟨_, (pss_cons (ps_asg (pv 1) (pg_tup rfl (pgs_cons (pg_name (i := 2) sc_Store_learn.nd rfl (Or.inl rfl)) (pgs_cons (pg_name (i := 3) sc_Store_learn.nd rfl (Or.inl rfl)) (pgs_cons (pg_name (i := 4) sc_Store_learn.nd rfl (Or.inl rfl)) (pgs_cons (pg_name (i := 5) sc_Store_learn.nd rfl (Or.inl rfl)) pgs_nil))))))
      (pss_one (ps_if (pt_cmpR op_gt (pv 4) (pe_ix ix_tup (pe_dget2 hu (pe_fld (pv 0) rfl) (pe_tup (pa_cons (pv 2) (pa_cons (pv 3) pa_nil))) (pe_tup (pa_cons pe_int (pa_cons pe_int pa_nil))) ⟨rfl, rfl, rfl, rfl⟩) pe_int (fun _ _ => rfl)) (nomark _))
        (pss_one (ps_dput hu (pe_fld (pv 0) rfl) (pe_tup (pa_cons (pv 2) (pa_cons (pv 3) pa_nil))) (pe_tup (pa_cons (pv 4) (pa_cons (pv 5) pa_nil))) rfl)) pss_nil))), ?_⟩
    obtain ⟨t', e0, ht⟩ := tvHeld th
    cases e0
    refine ⟨.ref t, rfl, t, _, rfl, SqT.of ht, rfl, _, _, rfl, _, _, rfl, _, _, rfl, _, _, rfl, rfl, ?_⟩
    refine ⟨iV h.2.2.1, rfl, .ref a, rfl, a, C, q.dx, _, _, rfl, ob, T.cl, T.known, st_known, q.k, rfl, kd.is, iV h.1, rfl, iV h.2.1, rfl, by show 2 ≤ sizeLine; decide, fun b nb => ?_⟩
    have e1 := Ex.new (o := HO.tup [iV h.1, iV h.2.1]) nb
    refine ⟨by show 2 ≤ sizeLine; decide, fun b2 nb2 => ?_⟩
    have e2 := Ex.new (o := HO.tup [V.int 0, V.int 0]) nb2
    have e12 : Ex H _ := fun b o z => e2 _ _ (e1 _ _ z)
    have kd2 := kd.ex e12
    obtain ⟨o, dg, kv⟩ := kd2.get (b := b) (e2 _ _ upd_same)
    refine ⟨o, dg, ?_⟩
    obtain ⟨t2, c2, eo, h2⟩ : ∃ t2 c2, o.getD (V.ref b2) = .ref t2 ∧ upd (upd H b (HO.tup [iV h.1, iV h.2.1])) b2 (HO.tup [V.int 0, V.int 0]) t2 = some (.tup [iV ((kn h.1 h.2.1).getD (0, 0)).1, c2]) := by
      cases ex : kn h.1 h.2.1 with
      | none =>
        rw [ex] at kv
        cases o with
        | some v => exact kv.elim
        | none => exact ⟨b2, V.int 0, rfl, upd_same⟩
      | some x =>
        rw [ex] at kv
        cases o with
        | none => exact kv.elim
        | some v =>
          obtain ⟨t2, rfl, h2⟩ := tvPair kv
          exact ⟨t2, _, rfl, h2⟩
    rw [eo]
    refine ⟨t2, _, _, iV ((kn h.1 h.2.1).getD (0, 0)).1, rfl, rfl, SqT.of h2, atI_nat (j := 0) rfl, _, _, rfl, rfl, _, rfl, ite2 (fun c => ?_) (fun c => ?_)⟩
    · have c' : ((kn h.1 h.2.1).getD (0, 0)).1 < h.2.2.1 := by have := of_decide_eq_true c; omega
      refine ⟨iV h.2.2.1, rfl, iV h.2.2.2, rfl, by show 2 ≤ sizeLine; decide, fun b3 nb3 => ?_⟩
      have e3 := Ex.new (o := HO.tup [iV h.2.2.1, iV h.2.2.2]) nb3
      have e13 : Ex H _ := fun b o z => e3 _ _ (e12 _ _ z)
      refine ⟨.ref a, rfl, a, C, q.dx, _, _, rfl, e13 _ _ ob, T.cl, T.known, st_known, iV h.1, rfl, iV h.2.1, rfl, by show 2 ≤ sizeLine; decide, fun b4 nb4 => ?_⟩
      have e4 := Ex.new (o := HO.tup [iV h.1, iV h.2.1]) nb4
      have e14 : Ex H _ := fun b o z => e4 _ _ (e13 _ _ z)
      obtain ⟨H', dp, kd5, kx⟩ := (kd.ex e14).put (b := b4) (x := h.2.2) (v := .ref b3) upd_same (ofPair (e4 _ _ upd_same)) (Nat.lt_of_le_of_lt hn (by decide))
      refine ⟨q.k, H', rfl, dp, ?_⟩
      refine k H' ?_ ((Kx.ex e14).trans kx)
      unfold learnH
      rw [if_pos c']
      exact kd5
    · have c' : ¬ ((kn h.1 h.2.1).getD (0, 0)).1 < h.2.2.1 := fun z => c (decide_eq_true (by omega))
      refine k _ ?_ (Kx.ex e12)
      unfold learnH
      rw [if_neg c']
      exact (kd.ex e12).le (Nat.le_succ _)
/-! ### missing -/
abbrev MeLive (P : Program) (w : World) (K : PySem.W.Frag) (mg : Str → Option Value) (base : Heap) (C : Addr) (f : Addr) (fd : FuncData) : Prop := Me P w K mg base CX0 1 C "is_live" ["self", "cell"] (spLive C) f fd
def spMiss (C : Addr) : Sp := fun vs H Q _ => ∃ (a : Addr) (q : SA) (cs : CellsT) (kn : KnownT) (n d : Nat), vs = [.ref a, iV d] ∧ LkR C a q cs kn n H ∧ cs.length ≤ 100 ∧ q.pages ≤ 100 ∧ q.copies ≤ 100 ∧
  ∀ D H', H D = none → H' D = some (.lst ((missR kn cs q.pages q.copies d).map iV)) → Ex H H' → Q (.ref D) H'
theorem missP_len {k : KnownT} {cs : CellsT} {copies d p : Nat} : (missP k cs copies d p).length ≤ copies := by
  unfold missP
  split
  · rw [List.length_replicate]
    exact Nat.sub_le _ _
  · exact Nat.zero_le _
theorem flat_len {f : Nat → List Nat} {c : Nat} (h : ∀ p, (f p).length ≤ c) : ∀ n, ((List.range n).flatMap f).length ≤ n * c
  | 0 => Nat.zero_le _
  | n + 1 => by
    rw [List.range_succ, List.flatMap_append, List.length_append]
    have := flat_len h n
    have h2 : ([n].flatMap f).length ≤ c := by simpa using h n
    rw [Nat.succ_mul]
    omega
theorem ok_missing {f fL : Addr} {fd fdL : FuncData} (F : MeP K "missing" "Store.missing" s_Store_missing f fd) (T : StC K mg C) (B : Blt mg) (L : MeLive P w K mg base C fL fdL) : FnOk P w K mg base CX 2 f fd ["self", "drawer"] (spMiss C) := by
  refine F.ok (CX := CX) sc_Store_missing (fun vs H Q E h => ?_) (fun cdv A outer s H vs Q E hr h => ?_)
  · obtain ⟨a, q, cs, kn, n, d, rfl, _⟩ := h
    rfl
  · obtain ⟨a, q, cs, kn, n, d, rfl, R, b1, b2, bc, k⟩ := h
    have hu := hu_of hr
    have un : (A.deeper (envOfC "Store.missing" (defScope s_Store_missing) s.heap.objs.size f cdv)).units + 65 < cLine := by have := hr.un; omega
    refine ⟨_, (pss_cons (ps_setLc (i := 2) (own := [("cell", 5), ("held", 6)]) (g := gTup K 2 (gCons (gName 5) (gCons (gName 6) gNil))) (by rfl) sc_Store_missing.nd rfl rfl (sw_true rfl rfl (by rfl) (by decide +kernel)) (pi_enum (by rfl) B.enumerate (pa_cons (pe_fld (pv 0) rfl) pa_nil))
        (blkOk_by (own := [("cell", 5), ("held", 6)]) (N := n_Store_missing) (sc := defScope s_Store_missing) (by decide +kernel)) (fun _ _ _ _ _ => pg_tup rfl (pgs_cons (pg_name (i := 5) sc_Store_missing.nd rfl (Or.inl rfl)) (pgs_cons (pg_name (i := 6) sc_Store_missing.nd rfl (Or.inl rfl)) pgs_nil)))
        (fun _ _ _ _ _ => pts_one (pt_val (pe_meth (pv 0) T.cl L.m L.G hr L.b .nil pass0 (pa_cons (pv 5) pa_nil)))) (fun _ _ _ _ _ => pe_slice (sl_tup : SlR _ (rSlT K)) (pv 6) po_none (po_some pe_int)))
      (pss_cons (ps_set (i := 3) sc_Store_missing.nd rfl (Or.inl rfl) (pe_lst pa_nil))
      (pss_cons (ps_for (passes_of rfl) rfl (pi_range1 (by rfl) B.range (pa_cons (pe_fld (pv 0) rfl) pa_nil)) (pg_name (i := 4) sc_Store_missing.nd rfl (Or.inl rfl))
        (pss_one (ps_if (pt_cmp (pc_din hu (pe_tup (pa_cons (pv 1) (pa_cons (pv 4) pa_nil))) (pe_fld (pv 0) rfl)))
          (pss_one (ps_expr (pe_bm PySem.F.plainAttrs_list PySem.F.slot_list_extend PySem.F.type_list_extend mt_extend (pv 3) (pa_cons (pe_op op_rep (pe_lst (pa_cons (pv 4) pa_nil)) (pe_op op_sub (pe_fld (pv 0) rfl) (pe_bm PySem.F.plainAttrs_list PySem.F.slot_list_count PySem.F.type_list_count (mt_countD un) (pv 2) (pa_cons (pe_tup (pa_cons (pv 1) (pa_cons (pv 4) pa_nil))) pa_nil)))) pa_nil)))) pss_nil)))
      (pss_one (ps_ret (pv 3)))))), ?_⟩
    obtain ⟨vs, hcs, tv⟩ := R.cs
    have hl : vs.length = cs.length := by rw [tv.len, List.length_map]
    refine ⟨.ref a, rfl, a, C, q.dx, _, _, rfl, R.ob, T.cl, T.cells, st_cells, q.c, vs, rfl, SqL.of hcs, fun D nD => ?_⟩
    refine lc_it walk_enum (fun i G => ∃ ws, G D = some (.lst ws) ∧ TvAll G ws ((livePairs kn (cs.take i)).map pairP) ∧ Kx (· = D) H G) ⟨[], upd_same, .nil, Kx.put rfl⟩ (fun i G _ w => by
        obtain ⟨_, _, _, kx⟩ := w
        exact SqL.of ((kx.toEx (fun b e => e ▸ nD)) _ _ hcs)) (fun i x G G' hi w y => ?_) (fun G w => ?_)
    · obtain ⟨ws, gD, tvw, kG⟩ := w
      obtain ⟨t1, x1, y1, rfl, n1, rfl, ex1, ey1⟩ := y
      obtain rfl : V.int (i : Nat) = x1 := Option.some.inj ex1
      have eG := kG.toEx (fun b e => e ▸ nD)
      have en := Ex.new (o := HO.tup [V.int (i : Nat), y1]) n1
      have eH : Ex H _ := fun b o z => en _ _ (eG _ _ z)
      have ic : i < cs.length := by omega
      obtain ⟨v, hv, tvv⟩ := tvAtD tv (List.getElem?_eq_getElem ic)
      obtain rfl : v = y1 := Option.some.inj (hv.symm.trans ey1)
      have eD : cs.getD i none = cs[i] := by rw [List.getD_eq_getElem?_getD, List.getElem?_eq_getElem ic]; rfl
      have lp : livePairs kn (cs.take (i + 1)) = livePairs kn (cs.take i) ++ (if liveAt kn cs i = true then [pairOf cs[i]] else []) := by
        unfold livePairs liveAt
        rw [takeSnoc (List.getElem?_eq_getElem ic), List.filter_append, List.map_append, eD, List.filter_cons]
        split <;> rfl
      refine ⟨t1, _, rfl, SqT.of upd_same, rfl, _, _, rfl, _, _, rfl, rfl, rfl, ?_⟩
      refine ⟨.ref a, rfl, a, q.dx, _, rfl, eH _ _ R.ob, rfl, iV i, rfl, a, q, cs, kn, n, i, rfl, R.ex eH, ic, fun H3 e3 => ⟨_, rfl, ?_⟩⟩
      have eH3 : Ex H H3 := fun b o z => e3 _ _ (eH _ _ z)
      have gD3 : H3 D = some (.lst ws) := e3 _ _ (en _ _ gD)
      have kD3 : Kx (· = D) H H3 := kG.trans ((Kx.ex en).trans (Kx.ex e3))
      have tv3 := (tvw.mv (Kt.ex en)).mv (Kt.ex e3)
      refine ite2 (fun c => ?_) (fun c => ?_)
      · rw [if_pos c] at lp
        cases eo : cs[i] with
        | none =>
          exfalso
          unfold liveAt at c
          rw [eD, eo] at c
          cases c
        | some h =>
          rw [eo] at tvv lp
          obtain ⟨t, rfl, ht⟩ := tvHeld (tvv.mv (Kt.ex eH3))
          refine ⟨.ref t, rfl, ?_⟩
          dsimp only [tNoPart]
          refine ⟨2, rfl, t, _, rfl, SqT.of ht, (by show ¬ (0 = 0 ∧ 2 = 4); omega), fun p np => ?_⟩
          have ep := Ex.new (o := HO.tup (cutV [iV h.1, iV h.2.1, iV h.2.2.1, iV h.2.2.2] none (some 2))) np
          refine ⟨ws, ep _ _ gD3, ?_, ws ++ [.ref p], upd_same, ?_, (kD3.trans (Kx.ex ep)).trans (Kx.put rfl)⟩
          · rw [tv3.len, List.length_map]
            unfold livePairs
            rw [List.length_map]
            refine Nat.lt_of_le_of_lt (List.length_filter_le _ _) ?_
            rw [List.length_take]
            exact Nat.lt_of_le_of_lt (Nat.min_le_left _ _) (Nat.lt_of_lt_of_le ic (Nat.le_trans b1 (by decide)))
          · rw [lp, List.map_append]
            exact TvAll.mv ((tv3.mv (Kt.ex ep)).app (.cons (ofPair (a := h.1) (b := h.2.1) upd_same) .nil)) (Kt.put (ep _ _ gD3))
      · rw [if_neg c, List.append_nil] at lp
        rw [lp]
        exact ⟨ws, gD3, tv3, kD3⟩
    · obtain ⟨ws, gD, tvw, kG⟩ := w
      rw [hl, List.take_length] at tvw
      have eG := kG.toEx (fun b e => e ▸ nD)
      refine ⟨Nat.zero_le _, fun E3 nE => ?_⟩
      have eE := Ex.new (o := HO.lst []) nE
      have eH : Ex H _ := fun b o z => eE _ _ (eG _ _ z)
      refine ⟨.ref a, rfl, a, C, q.dx, _, _, rfl, eH _ _ R.ob, T.cl, T.pages, st_pages, q.pages, rfl, by omega, by omega, ?_⟩
      have nEH : H E3 = none := Ex.none eG nE
      refine for_range (lo := 0) (n := q.pages) (fun i σ G' => ∃ y4, σ = [some (.ref a), some (iV d), some (.ref D), some (.ref E3), y4, none, none] ∧ G' E3 = some (.lst (((List.range i).flatMap (missP kn cs q.copies d)).map iV)) ∧ Kx (· = E3) G G') ⟨none, rfl, upd_same, Kx.put rfl⟩ (fun i σ G' hi w => ?_) (fun σ G' w => ?_)
      · obtain ⟨y4, rfl, gE, kE⟩ := w
        have e0 : Ex G G' := kE.toEx (fun b e => e ▸ nE)
        have eG' : Ex H G' := fun b o z => e0 _ _ (eG _ _ z)
        rw [Int.zero_add]
        refine ⟨iV d, rfl, iV i, rfl, by show 2 ≤ sizeLine; decide, fun b nb => ?_⟩
        have e1 := Ex.new (o := HO.tup [iV d, iV i]) nb
        have eb : (upd G' b (HO.tup [iV d, iV i])) b = some (.tup [iV d, iV i]) := upd_same
        have eH1 : Ex H _ := fun b o z => e1 _ _ (eG' _ _ z)
        obtain ⟨o, dg, kv⟩ := (R.kn.ex eH1).get eb
        refine ⟨.ref a, rfl, a, C, q.dx, _, _, rfl, eH1 _ _ R.ob, T.cl, T.known, st_known, q.k, o, rfl, dg, _, rfl, ?_⟩
        have es : o.isSome = (kn d i).isSome := by
          cases ex : kn d i <;> cases o <;> rw [ex] at kv <;> first | rfl | exact kv.elim
        rw [es]
        have fl : (List.range (i + 1)).flatMap (missP kn cs q.copies d) = (List.range i).flatMap (missP kn cs q.copies d) ++ missP kn cs q.copies d i := by
          rw [List.range_succ, List.flatMap_append]
          simp
        have e01 : Ex G _ := fun b o z => e1 _ _ (e0 _ _ z)
        refine ite2 (fun c => ?_) (fun c => ?_)
        · have mp : missP kn cs q.copies d i = List.replicate (q.copies - (livePairs kn cs).count (d, i)) i := if_pos c
          refine ⟨.ref E3, rfl, .inl ⟨rfl, _, SqL.of (e1 _ _ gE)⟩, iV i, rfl, by show 1 ≤ sizeLine; decide, fun l nl => ?_⟩
          have e2 := Ex.new (o := HO.lst [iV i]) nl
          have eH2 : Ex H _ := fun b o z => e2 _ _ (eH1 _ _ z)
          have e02 : Ex G _ := fun b o z => e2 _ _ (e01 _ _ z)
          refine ⟨.ref a, rfl, a, C, q.dx, _, _, rfl, eH2 _ _ R.ob, T.cl, T.copies, st_copies, .ref D, rfl, .inl ⟨rfl, _, SqL.of (e02 _ _ gD)⟩, iV d, rfl, iV i, rfl, by show 2 ≤ sizeLine; decide, fun b3 nb3 => ?_⟩
          have e3 := Ex.new (o := HO.tup [iV d, iV i]) nb3
          have e03 : Ex G _ := fun b o z => e3 _ _ (e02 _ _ z)
          refine ⟨D, .ref b3, pairP (d, i), (livePairs kn cs).map pairP, rfl, rfl, .lst (SqL.of (e03 _ _ gD)) (TvAll.dp' K (tvw.mv (Kt.ex e03))), (ofPair upd_same).dp' K, shaped_pairs _, shaped_pair _, ?_⟩
          rw [count_pair]
          have le : ((livePairs kn cs).count (d, i)) ≤ 100 := Nat.le_trans List.count_le_length (by
            unfold livePairs
            rw [List.length_map]
            exact Nat.le_trans (List.length_filter_le _ _) b1)
          have tn : ((q.copies : Int) - (((livePairs kn cs).count (d, i) : Nat) : Int)).toNat = q.copies - (livePairs kn cs).count (d, i) := by omega
          refine ⟨_, _, rfl, rfl, l, _, [iV i], rfl, rfl, e3 _ _ upd_same, by omega, by omega, ?_, fun p np => ?_⟩
          · rw [tn]
            exact Nat.le_trans (Nat.mul_le_mul (Nat.le_refl 1) (Nat.le_trans (Nat.sub_le _ _) bc)) (by decide)
          · rw [tn, rep_one]
            have e4 := Ex.new (o := HO.lst (List.replicate (q.copies - (livePairs kn cs).count (d, i)) (iV i))) np
            have gE4 := e4 _ _ (e3 _ _ (e2 _ _ (e1 _ _ gE)))
            refine ⟨E3, p, _, _, rfl, rfl, gE4, upd_same, ?_, ?_⟩
            · rw [List.length_map, List.length_replicate]
              have h1 := flat_len (f := missP kn cs q.copies d) (c := q.copies) (fun p => missP_len) i
              have h2 : i * q.copies ≤ 100 * 100 := Nat.mul_le_mul (by omega) bc
              exact Nat.le_trans (Nat.add_le_add (Nat.le_trans h1 h2) (Nat.le_trans (Nat.sub_le _ _) bc)) (by decide)
            · refine ⟨_, rfl, ?_, (((kE.trans (Kx.ex e1)).trans (Kx.ex e2)).trans ((Kx.ex e3).trans (Kx.ex e4))).trans (Kx.put rfl)⟩
              rw [upd_same, fl, mp, List.map_append, ← rep_map]
        · have mp : missP kn cs q.copies d i = [] := if_neg c
          exact ⟨_, rfl, by rw [fl, mp, List.append_nil]; exact e1 _ _ gE, kE.trans (Kx.ex e1)⟩
      · obtain ⟨y4, rfl, gE, kE⟩ := w
        have e0 : Ex G G' := kE.toEx (fun b e => e ▸ nE)
        exact ⟨.ref E3, rfl, k E3 G' nEH gE fun b o z => e0 _ _ (eG _ _ z)⟩
end
end K04

set_option maxHeartbeats 4000000
namespace K04
open PySem PySem.Spec PyProof.Rows L2 Hd Evl
theorem paired_app {α β : Type} {R : α → β → Prop} : ∀ {xs : List α} {ys : List β} {us : List α} {zs : List β}, Paired R xs ys → Paired R us zs → Paired R (xs ++ us) (ys ++ zs)
  | _, _, _, _, .nil, g => g
  | _, _, _, _, .cons h t, g => .cons h (paired_app t g)
section
variable {CX : CXT} {P : Program} {w : World} {K : PySem.W.Frag} {mg : Str → Option Value} {base : Heap} {C : Addr}
/-! ### begin -/
abbrev MeLearn (P : Program) (w : World) (K : PySem.W.Frag) (mg : Str → Option Value) (base : Heap) (C : Addr) (f : Addr) (fd : FuncData) : Prop := Me P w K mg base CX0 1 C "learn" ["self", "held"] (spLearn C) f fd
abbrev MeMiss (P : Program) (w : World) (K : PySem.W.Frag) (mg : Str → Option Value) (base : Heap) (C : Addr) (f : Addr) (fd : FuncData) : Prop := Me P w K mg base CX0 2 C "missing" ["self", "drawer"] (spMiss C) f fd
structure Small (q : SA) (s : StT) : Prop where
  cells : s.cells.length ≤ 100
  pages : q.pages ≤ 100
  copies : q.copies ≤ 100
structure BeginP (C : Addr) (vs : List V) (H : Hp) (Q : VK) : Prop where
  go : ∃ (a : Addr) (q : SA) (s : StT) (n m : Nat), vs = [.ref a, iV m] ∧ StR C a q s n H ∧ Small q s ∧ m ≤ 100 ∧
  ∀ (k r : Addr) (rs : List Addr) H', StR C a { q with k := k, r := r, rs := rs } (s.begin q.pages q.copies m) s.cells.length H' → H k = none → H r = none → (∀ b ∈ rs, H b = none) → Kx (· = a) H H' → Q .non H'
def spBegin (C : Addr) : Sp := fun vs H Q _ => BeginP C vs H Q
theorem ok_begin {f fL fM : Addr} {fd fdL fdM : FuncData} (F : MeP K "begin" "Store.begin" s_Store_begin f fd) (T : StC K mg C) (B : Blt mg) (L : MeLearn P w K mg base C fL fdL) (M : MeMiss P w K mg base C fM fdM) : FnOk P w K mg base CX 3 f fd ["self", "deepest"] (spBegin C) := by
  refine F.ok (CX := CX) sc_Store_begin (fun vs H Q E h => ?_) (fun cdv A outer s H vs Q E hr h => ?_)
  · obtain ⟨a, q, st, n, m, rfl, _⟩ := h
    rfl
  · obtain ⟨a, q, st, n, m, rfl, R, S, hm, k⟩ := h
    have hu := hu_of hr
    refine ⟨_, (pss_cons (ps_fld (pv 0) pe_dnewT rfl)
      (pss_cons (ps_for (passes_of rfl) rfl (pi_list (pe_fld (pv 0) rfl)) (pg_name (i := 2) sc_Store_begin.nd rfl (Or.inl rfl))
        (pss_one (ps_if (PW.pt (pw_and (pt_cmpR op_notN (pv 2) pe_non (nomark _)) (pw_and1 (pt_cmpR op_le (pe_ix ix_tup (pv 2) pe_int (fun _ _ => rfl)) (pv 1) (nomark _)))))
          (pss_one (ps_expr (pe_meth (pv 0) T.cl L.m L.G (hr.mono (by decide)) L.b .nil pass0 (pa_cons (pv 2) pa_nil)))) pss_nil)))
      (pss_one (ps_fld (pv 0) (pe_lc (own := [("drawer", 3)]) (g := gName 3) (by rfl) sc_Store_begin.nd (pi_range1 (by rfl) B.range (pa_cons (pe_op op_add (pv 1) pe_int) pa_nil)) (blkOk_by (own := [("drawer", 3)]) (N := n_Store_begin) (sc := defScope s_Store_begin) (by decide +kernel)) (fun _ _ _ _ _ => pg_name (i := 3) sc_Store_begin.nd rfl (Or.inl rfl)) (fun _ _ _ _ _ => pts_nil)
        (fun _ _ _ _ _ => pe_meth (pv 0) T.cl M.m M.G hr M.b .nil pass0 (pa_cons (pv 3) pa_nil))) rfl)))), ?_⟩
    intro k' nk
    have nak : a ≠ k' := ne_of_none R.ob nk
    refine ⟨.ref a, rfl, a, C, q.dx, _, rfl, (by rw [upd_ne nak]; exact R.ob), T.cl, T.known, (by show 6 < 1000; decide), ?_⟩
    rw [st_putK]
    obtain ⟨vs, hcs, tv⟩ := R.cs
    have hl : vs.length = st.cells.length := by rw [tv.len, List.length_map]
    have F0 : Kx (· = a) H (upd (upd H k' (.dT [])) a (.ins C q.dx (stF { q with k := k' }))) := ((Kx.ex (Ex.new nk)).trans (Kx.put rfl))
    have gA : (upd (upd H k' (.dT [])) a (.ins C q.dx (stF { q with k := k' }))) a = some (.ins C q.dx (stF { q with k := k' })) := upd_same
    have gk : KnAt (upd (upd H k' (.dT [])) a (.ins C q.dx (stF { q with k := k' }))) k' kn0 0 := ⟨[], by rw [upd_ne nak.symm, upd_same], Nat.le_refl _, fun _ _ => trivial⟩
    show (tSeq _ _ _ _ _ : Prop)
    generalize upd (upd H k' (.dT [])) a (.ins C q.dx (stF { q with k := k' })) = G1 at F0 gA gk ⊢
    have nac : ¬ q.c = a := fun e => R.ne_ac e.symm
    have at_c : ∀ G, Kx (· = a) H G → G q.c = some (.lst vs) := fun G F => F _ _ nac hcs
    have kt_ : ∀ G, Kx (· = a) H G → Kt H G := fun G F => F.kt fun b e xs => e ▸ fun z => by rw [R.ob] at z; cases z
    refine ⟨.ref a, rfl, a, C, q.dx, _, _, rfl, gA, T.cl, T.cells, st_cells, q.c, rfl, ⟨vs, SqL.of (at_c _ F0)⟩, ?_⟩
    refine for_list (xs := vs) (fun i σ G => ∃ y2, σ = [some (.ref a), some (iV m), y2, none] ∧ G a = some (.ins C q.dx (stF { q with k := k' })) ∧ KnAt G k' ((st.cells.take i).foldl (learnC m) kn0) i ∧ Kx (· = a) H G) ⟨none, rfl, gA, gk, F0⟩
      (fun i σ G _ w => by obtain ⟨_, _, _, _, F⟩ := w; exact SqL.of (at_c _ F)) (fun i x σ G hx w => ?_) (fun σ G w => ?_)
    · obtain ⟨y2, rfl, gA, gk, F⟩ := w
      obtain ⟨o, ho, tvo⟩ := tvAt tv hx
      have il : i < st.cells.length := (List.getElem?_eq_some_iff.mp ho).1
      have step := foldTake (f := learnC m) (z := kn0) ho
      have tvG := tvo.mv (kt_ _ F)
      cases o with
      | none =>
        obtain rfl := tvNone tvG
        refine ⟨.non, rfl, rfl, _, rfl, iteF (iteF ⟨_, rfl, gA, ?_, F⟩)⟩
        rw [step]
        exact gk.le (Nat.le_succ _)
      | some h =>
        obtain ⟨t, rfl, ht⟩ := tvHeld tvG
        refine ⟨.ref t, rfl, rfl, _, rfl, iteT ⟨.ref t, rfl, t, _, _, iV h.1, rfl, rfl, SqT.of ht, atI_nat (j := 0) rfl, iV m, rfl, _, _, rfl, rfl, _, rfl, ite2 (fun c => ?_) (fun c => ?_)⟩⟩
        · have c' : h.1 ≤ m := by have := of_decide_eq_true c; omega
          refine ⟨.ref a, rfl, a, q.dx, _, rfl, gA, rfl, .ref t, rfl, a, t, { q with k := k' }, _, i, h, rfl, gA, gk, ofHeld ht, Nat.le_trans (Nat.le_of_lt il) (Nat.le_trans S.cells (by decide)), fun G' gk' kx => ?_⟩
          refine ⟨_, rfl, kx _ _ nak gA, ?_, F.thenF kx nk⟩
          rw [step]
          show KnAt G' k' (if h.1 ≤ m then learnH _ h else _) _
          rw [if_pos c']
          exact gk'
        · have c' : ¬ h.1 ≤ m := fun z => c (decide_eq_true (by omega))
          refine ⟨_, rfl, gA, ?_, F⟩
          rw [step]
          show KnAt G k' (if h.1 ≤ m then learnH _ h else _) _
          rw [if_neg c']
          exact gk.le (Nat.le_succ _)
    · obtain ⟨y2, rfl, gA, gk, F⟩ := w
      rw [hl, List.take_length] at gk
      refine ⟨iV m, rfl, _, _, rfl, rfl, _, rfl, by omega, by omega, fun D nD => ?_⟩
      have nDa : a ≠ D := ne_of_none gA nD
      have Rk : LkR C a { q with k := k' } st.cells (knownOf m st.cells) st.cells.length G := ⟨gA, ⟨vs, at_c _ F, tv.mv (kt_ _ F)⟩, gk⟩
      have nDH : H D = none := by
        cases hD : H D with
        | none => rfl
        | some o =>
          rw [F D o (fun e => nDa e.symm) hD] at nD
          cases nD
      have e1 : ((m : Int) + 1).toNat = m + 1 := by omega
      rw [e1]
      refine lc_range (fun i G' => ∃ rs : List Addr, G' D = some (.lst (rs.map V.ref)) ∧ Paired (fun b row => G' b = some (.lst (row.map iV))) rs ((List.range i).map (missR (knownOf m st.cells) st.cells q.pages q.copies)) ∧ (D :: rs).Nodup ∧ (∀ b ∈ rs, G b = none) ∧ Kx (· = D) G G') ⟨[], upd_same, .nil, by simp, by simp, Kx.put rfl⟩ (fun i G' hi w => ?_) (fun G' w => ?_)
      · obtain ⟨rs, gD, pr, nd, fr, kx⟩ := w
        have eG' : Ex G G' := kx.toEx fun b e => e ▸ nD
        rw [Int.zero_add]
        refine ⟨rfl, yes_go ⟨.ref a, rfl, a, q.dx, _, rfl, eG' _ _ gA, rfl, iV i, rfl, a, { q with k := k' }, st.cells, _, _, i, rfl, Rk.ex eG', S.cells, S.pages, S.copies, fun D2 G2 nD2 gD2 e2 => ?_⟩⟩
        have nDD2 : D ≠ D2 := ne_of_none gD nD2
        have nrs : ∀ b ∈ rs, b ≠ D2 := fun b hb => by
          obtain ⟨row, _, h⟩ := paired_mem pr hb
          exact ne_of_none h nD2
        have nDrs : ∀ b ∈ rs, b ≠ D := fun b hb e => (List.nodup_cons.mp nd).1 (e ▸ hb)
        refine ⟨rs.map V.ref, e2 _ _ gD, ?_, rs ++ [D2], ?_, ?_, ?_, ?_, (kx.trans (Kx.ex e2)).trans (Kx.put rfl)⟩
        · rw [List.length_map, pr.length, List.length_map, List.length_range]
          exact Nat.lt_of_lt_of_le hi (Nat.le_trans (Nat.succ_le_succ hm) (by decide))
        · rw [upd_same, List.map_append]
          rfl
        · rw [List.range_succ, List.map_append]
          refine paired_app (paired_im2 pr fun b hb row h => ?_) (.cons ?_ .nil)
          · rw [upd_ne (nDrs b hb)]
            exact e2 _ _ h
          · rw [upd_ne nDD2.symm]
            exact gD2
        · have n1 := List.nodup_cons.mp nd
          refine List.nodup_cons.mpr ⟨fun z => ?_, ?_⟩
          · rcases List.mem_append.mp z with z | z
            · exact n1.1 z
            · exact nDD2 (List.mem_singleton.mp z)
          · exact List.nodup_append.mpr ⟨n1.2, by simp, fun b hb c hc => by rw [List.mem_singleton.mp hc]; exact nrs b hb⟩
        · intro b hb
          rcases List.mem_append.mp hb with z | z
          · exact fr b z
          · rw [List.mem_singleton.mp z]
            exact Ex.none eG' nD2
      · obtain ⟨rs, gD, pr, nd, fr, kx⟩ := w
        have eG' : Ex G G' := kx.toEx fun b e => e ▸ nD
        refine ⟨.ref a, rfl, a, C, q.dx, _, rfl, eG' _ _ gA, T.cl, T.rows, (by show 6 < 1000; decide), ?_⟩
        rw [st_putR]
        have frH : ∀ b, G b = none → H b = none := fun b hb => by
          cases hD : H b with
          | none => rfl
          | some o =>
            rw [F b o (fun e => by rw [e, gA] at hb; cases hb) hD] at hb
            cases hb
        have Ff : Kx (· = a) H (upd G' a (.ins C q.dx (stF { q with k := k', r := D }))) := (F.trans (Kx.ex eG')).trans (Kx.put rfl)
        have nrsa : ∀ b ∈ rs, b ≠ a := fun b hb e => by
          have := fr b hb
          rw [e, gA] at this
          cases this
        have ktG : Kt G (upd G' a (.ins C q.dx (stF { q with k := k', r := D }))) := ((Kx.ex eG').trans (Kx.put (S := (· = a)) rfl)).kt fun b e xs => e ▸ fun z => by rw [gA] at z; cases z
        have nka : k' ≠ a := nak.symm
        refine k k' D rs _ ⟨upd_same, ⟨vs, at_c _ Ff, tv.mv (kt_ _ Ff)⟩, ?_, ?_, ?_, ?_⟩ nk nDH (fun b hb => frH b (fr b hb)) Ff
        · exact gk.mv ktG fun o h => by rw [upd_ne nka]; exact eG' _ _ h
        · rw [upd_ne nDa.symm]
          exact gD
        · exact paired_im2 pr fun b hb row h => by rw [upd_ne (nrsa b hb)]; exact h
        · refine List.nodup_cons.mpr ⟨fun z => ?_, nd⟩
          have gc := at_c _ F
          rcases List.mem_cons.mp z with z | z
          · rw [z, nD] at gc
            cases gc
          · rw [fr _ z] at gc
            cases gc
end
end K04

set_option maxHeartbeats 4000000
namespace K04
open PySem PySem.Spec PyProof.Rows L2 Hd Evl
section
variable {CX : CXT} {P : Program} {w : World} {K : PySem.W.Frag} {mg : Str → Option Value} {base : Heap} {C : Addr}
/-! ### put -/
theorem paired_get2 {α β : Type} {R : α → β → Prop} : ∀ {xs : List α} {ys : List β} {i : Nat} {y : β}, Paired R xs ys → ys[i]? = some y → ∃ x, xs[i]? = some x ∧ R x y
  | _, _, i, y, .nil, e => by simp at e
  | _, _, 0, y, .cons h t, e => ⟨_, rfl, by have := Option.some.inj (by simpa using e); rw [← this]; exact h⟩
  | _, _, i + 1, y, .cons h t, e => by
    obtain ⟨x, e1, e2⟩ := paired_get2 (i := i) t (by simpa using e)
    exact ⟨x, by simpa using e1, e2⟩
/-- one of the rows is changed -/
theorem count_int (p : Nat) : ∀ row : List Nat, (row.map fun n : Nat => (n : Int)).count (p : Int) = row.count p
  | [] => rfl
  | x :: r => by
    rw [List.map_cons, List.count_cons, List.count_cons, count_int p r]
    congr 1
    by_cases h : x = p
    · subst h
      simp
    · simp [h]
      omega
theorem rowVI (row : List Nat) : row.map iV = (row.map fun n : Nat => (n : Int)).map V.int := by rw [List.map_map] <;> rfl
theorem paired_set {H H1 : Hp} : ∀ {rs : List Addr} {rows : List (List Nat)} {i : Nat} {b : Addr} {row : List Nat}, Paired (fun b row => H b = some (.lst (row.map iV))) rs rows → rs.Nodup → rs[i]? = some b → (∀ c ∈ rs, c ≠ b → ∀ o, H c = some o → H1 c = some o) → H1 b = some (.lst (row.map iV)) →
    Paired (fun b row => H1 b = some (.lst (row.map iV))) rs (rows.set i row)
  | _, _, _, _, _, .nil, _, e, _, _ => by simp at e
  | _, _, 0, b, row, .cons (l₁ := l1) h t, nd, e, k, g => by
    have e' := Option.some.inj (by simpa using e)
    subst e'
    have n1 := List.nodup_cons.mp nd
    exact .cons g (paired_im2 t fun c hc r hr => k c (List.mem_cons_of_mem _ hc) (fun z => n1.1 (z ▸ hc)) _ hr)
  | _, _, i + 1, b, row, .cons h t, nd, e, k, g => by
    have n1 := List.nodup_cons.mp nd
    rename_i a0 b0 l1 l2
    have e' : l1[i]? = some b := by simpa using e
    have hb := List.mem_of_getElem? e'
    exact .cons (k _ (List.mem_cons_self ..) (fun z => n1.1 (z ▸ hb)) _ h) (paired_set t n1.2 e' (fun c hc => k c (List.mem_cons_of_mem _ hc)) g)
structure PutP (C : Addr) (vs : List V) (H : Hp) (Q : VK) : Prop where
  go : ∃ (a : Addr) (q : SA) (s : StT) (n : Nat) (x : Nat × Nat × Nat), vs = [.ref a, iV x.1, iV x.2.1, iV x.2.2] ∧ StR C a q s n H ∧ Small q s ∧ n ≤ 10000 ∧ x.1 < s.rows.length ∧ (∀ r ∈ s.rows, r.length ≤ 100000) ∧
  ∀ H', StR C a q (s.put q.copies x) (n + 1) H' → Kx (Foot a q) H H' → Q .non H'
def spPut (C : Addr) : Sp := fun vs H Q _ => PutP C vs H Q
theorem ok_put {f : Addr} {fd : FuncData} (F : MeP K "put" "Store.put" s_Store_put f fd) (T : StC K mg C) (B : Blt mg) : FnOk P w K mg base CX 1 f fd ["self", "drawer", "page", "content"] (spPut C) := by
  refine F.ok (CX := CX) sc_Store_put (fun vs H Q E h => ?_) (fun cdv A outer s H vs Q E hr h => ?_)
  · obtain ⟨a, q, st, n, x, rfl, _⟩ := h
    rfl
  · obtain ⟨a, q, st, n, x, rfl, R, S, hn, hx, hb, k⟩ := h
    have hu := hu_of hr
    refine ⟨_, (pss_cons (ps_asg (pe_dget2 hu (pe_fld (pv 0) rfl) (pe_tup (pa_cons (pv 1) (pa_cons (pv 2) pa_nil))) (pe_tup (pa_cons pe_int (pa_cons pe_int pa_nil))) ⟨rfl, rfl, rfl, rfl⟩) (pg_tup rfl (pgs_cons (pg_name (i := 4) sc_Store_put.nd rfl (Or.inl rfl)) (pgs_cons (pg_name (i := 5) sc_Store_put.nd rfl (Or.inl rfl)) pgs_nil))))
      (pss_cons (ps_dput hu (pe_fld (pv 0) rfl) (pe_tup (pa_cons (pv 1) (pa_cons (pv 2) pa_nil))) (pe_tup (pa_cons (pe_op op_add (pv 4) pe_int) (pa_cons (pv 3) pa_nil))) rfl)
      (pss_cons (ps_set (i := 6) sc_Store_put.nd rfl (Or.inl rfl) (pe_ix ix_list (pe_fld (pv 0) rfl) (pv 1) (fun _ _ => rfl)))
      (pss_one (ps_expr (pe_bm PySem.F.plainAttrs_list PySem.F.slot_list_extend PySem.F.type_list_extend mt_extend (pv 6) (pa_cons (pe_op op_rep (pe_lst (pa_cons (pv 2) pa_nil)) (pe_op op_sub (pe_fld (pv 0) rfl) (pe_bm PySem.F.plainAttrs_list PySem.F.slot_list_count PySem.F.type_list_count mt_lcount (pv 6) (pa_cons (pv 2) pa_nil)))) pa_nil))))))), ?_⟩
    obtain ⟨d, p, c⟩ := x
    simp only at hx
    refine ⟨.ref a, rfl, a, C, q.dx, _, _, rfl, R.ob, T.cl, T.known, st_known, q.k, rfl, R.kn.is, iV d, rfl, iV p, rfl, by show 2 ≤ sizeLine; decide, fun b nb => ?_⟩
    have e1 := Ex.new (o := HO.tup [iV d, iV p]) nb
    refine ⟨by show 2 ≤ sizeLine; decide, fun b2 nb2 => ?_⟩
    have e2 := Ex.new (o := HO.tup [V.int 0, V.int 0]) nb2
    have e12 := e1.trans e2
    have R2 := R.ex e12
    obtain ⟨o, dg, kv⟩ := R2.kn.get (b := b) (e2 _ _ upd_same)
    refine ⟨o, dg, ?_⟩
    obtain ⟨t2, c2, eo, h2⟩ : ∃ t2 c2, o.getD (V.ref b2) = .ref t2 ∧ upd (upd H b (HO.tup [iV d, iV p])) b2 (HO.tup [V.int 0, V.int 0]) t2 = some (.tup [iV (verOf st.known d p), c2]) := by
      unfold verOf
      cases ex : st.known d p with
      | none =>
        rw [ex] at kv
        cases o with
        | some v => exact kv.elim
        | none => exact ⟨b2, V.int 0, rfl, upd_same⟩
      | some x =>
        rw [ex] at kv
        cases o with
        | none => exact kv.elim
        | some v =>
          obtain ⟨t2, rfl, h2⟩ := tvPair kv
          exact ⟨t2, _, rfl, h2⟩
    rw [eo]
    refine ⟨t2, _, rfl, SqT.of h2, rfl, _, _, rfl, _, _, rfl, rfl, ?_⟩
    refine ⟨iV (verOf st.known d p), rfl, _, _, rfl, rfl, iV c, rfl, by show 2 ≤ sizeLine; decide, fun b3 nb3 => ?_⟩
    have e3 := Ex.new (o := HO.tup [V.int ((verOf st.known d p : Nat) + 1), iV c]) nb3
    have e13 := e12.trans e3
    refine ⟨.ref a, rfl, a, C, q.dx, _, _, rfl, e13 _ _ R.ob, T.cl, T.known, st_known, iV d, rfl, iV p, rfl, by show 2 ≤ sizeLine; decide, fun b4 nb4 => ?_⟩
    have e4 := Ex.new (o := HO.tup [iV d, iV p]) nb4
    have e14 := e13.trans e4
    have R4 := R.ex e14
    obtain ⟨H5, dp, kd5, kx⟩ := R4.kn.put (b := b4) (x := (verOf st.known d p + 1, c)) (v := .ref b3) upd_same (ofPair (by rw [e4 _ _ upd_same]; push_cast; rfl)) (Nat.lt_of_le_of_lt hn (by decide))
    refine ⟨q.k, H5, rfl, dp, ?_⟩
    have ob5 : H5 a = some (.ins C q.dx (stF q)) := kx _ _ R.ne_ak R4.ob
    have rw5 : H5 q.r = some (.lst (q.rs.map V.ref)) := kx _ _ R.ne_kr.symm R4.rw
    obtain ⟨row, hrow⟩ : ∃ row, st.rows[d]? = some row := ⟨_, List.getElem?_eq_getElem hx⟩
    have hrm := List.mem_of_getElem? hrow
    obtain ⟨rb, hrb, hrh⟩ := paired_get2 R4.ro hrow
    have rbm := List.mem_of_getElem? hrb
    have rk : rb ≠ q.k := (R.ne_ks rbm).symm
    have rh5 : H5 rb = some (.lst (row.map iV)) := kx _ _ rk hrh
    refine ⟨.ref a, rfl, a, C, q.dx, _, _, rfl, ob5, T.cl, T.rows, st_rows, iV d, rfl, q.r, _, _, .ref rb, rfl, rfl, SqL.of rw5, atI_nat (by rw [List.getElem?_map, hrb] <;> rfl), ?_⟩
    refine ⟨.ref rb, rfl, .inl ⟨rfl, _, SqL.of rh5⟩, iV p, rfl, by show 1 ≤ sizeLine; decide, fun l nl => ?_⟩
    have e6 := Ex.new (o := HO.lst [iV p]) nl
    refine ⟨.ref a, rfl, a, C, q.dx, _, _, rfl, e6 _ _ ob5, T.cl, T.copies, st_copies, .ref rb, rfl, .inl ⟨rfl, _, SqL.of (e6 _ _ rh5)⟩, iV p, rfl, rb, row.map (fun n : Nat => (n : Int)), (p : Int), rfl, rfl, SqL.of ((e6 _ _ rh5).trans (by rw [rowVI])), ?_⟩
    rw [count_int]
    have hc : row.count p ≤ 100000 := Nat.le_trans List.count_le_length (hb row hrm)
    have tn : ((q.copies : Int) - ((row.count p : Nat) : Int)).toNat = q.copies - row.count p := by omega
    have bc := S.copies
    refine ⟨_, _, rfl, rfl, l, _, [iV p], rfl, rfl, upd_same, by omega, by omega, ?_, fun z nz => ?_⟩
    · rw [tn]
      exact Nat.le_trans (Nat.mul_le_mul (Nat.le_refl 1) (Nat.le_trans (Nat.sub_le _ _) bc)) (by decide)
    · rw [tn, rep_one]
      have e7 := Ex.new (o := HO.lst (List.replicate (q.copies - row.count p) (iV p))) nz
      have e67 := e6.trans e7
      refine ⟨rb, z, _, _, rfl, rfl, e67 _ _ rh5, upd_same, ?_, ?_⟩
      · rw [List.length_map, List.length_replicate]
        exact Nat.le_trans (Nat.add_le_add (hb row hrm) (Nat.le_trans (Nat.sub_le _ _) bc)) (by decide)
      · have eput : st.rows.getD d [] = row := by rw [List.getD_eq_getElem?_getD, hrow]; rfl
        have F5 : Kx (Foot a q) H H5 := (Kx.ex e14).trans (kx.wk fun b e => .inr (.inr (.inl e)))
        have F7 : Kx (Foot a q) H _ := (F5.trans (Kx.ex e67)).trans (Kx.put (S := Foot a q) (D := rb) (o := .lst (row.map iV ++ List.replicate (q.copies - row.count p) (iV p))) (.inr (.inr (.inr (.inr rbm)))))
        have K5 : Kx (· = rb) H5 _ := (Kx.ex e67).trans (Kx.put (S := (· = rb)) (D := rb) (o := .lst (row.map iV ++ List.replicate (q.copies - row.count p) (iV p))) rfl)
        refine k _ ?_ F7
        have kt5 : Kt H5 _ := K5.kt fun b e xs => e ▸ fun z => by rw [rh5] at z; cases z
        have ktx : Kt _ H5 := kx.kt fun b e xs => e ▸ R4.kn.notup xs
        obtain ⟨vs, hcs, tv⟩ := R4.cs
        refine ⟨K5 _ _ (R.ne_as rbm) ob5, ⟨vs, K5 _ _ (R.ne_cs rbm) (kx _ _ R.ne_kc.symm hcs), (tv.mv ktx).mv kt5⟩, ?_, K5 _ _ (R.ne_rs rbm) rw5, ?_, R.nd⟩
        · exact kd5.mv kt5 fun o h => K5 _ _ rk.symm h
        · show Paired _ q.rs (st.rows.set d (putR q.copies (st.rows.getD d []) p))
          rw [eput]
          refine paired_set (H := H) R.ro (List.nodup_cons.mp (List.nodup_cons.mp R.nd).2).2 hrb (fun c hc hn o h => ?_) ?_
          · exact K5 _ _ hn (kx _ _ (R.ne_ks hc).symm (e14 _ _ h))
          · rw [upd_same, putR, List.map_append, ← rep_map]
end
end K04

set_option maxHeartbeats 4000000
namespace K04
open PySem PySem.Spec PyProof.Rows L2 Hd Evl
section
variable {CX : CXT} {P : Program} {w : World} {K : PySem.W.Frag} {mg : Str → Option Value} {base : Heap} {C : Addr}
/-! ### a Store is made -/
theorem tvReps {H : Hp} : ∀ n, TvAll H (List.replicate n .non) (List.replicate n (cellP none))
  | 0 => .nil
  | n + 1 => .cons .non (tvReps n)

structure InitP (C : Addr) (vs : List V) (H : Hp) (Q : VK) : Prop where
  go : ∃ (a dx hs : Addr) (n k d p c : Nat) (w : Way), vs = [.ref a, .ref hs, .str (wayS w)] ∧ HouseAt H hs n k d p c ∧ H a = some (.ins C dx []) ∧
  ∀ (cs k r : Addr) H', StR C a ⟨dx, cs, k, r, [], w, p, c⟩ ⟨List.replicate n none, kn0, []⟩ 0 H' → H cs = none → H k = none → H r = none → Kx (· = a) H H' → Q .non H'
def spInit (C : Addr) : Sp := fun vs H Q _ => InitP C vs H Q
theorem ok_init {f : Addr} {fd : FuncData} (F : MeP K "__init__" "Store.__init__" s_Store___init__ f fd) (T : StC K mg C) : FnOk P w K mg base CX 1 f fd ["self", "house", "way"] (spInit C) := by
  refine F.ok (CX := CX) sc_Store___init__ (fun vs H Q E h => ?_) (fun cdv A outer s H vs Q E hr h => ?_)
  · obtain ⟨a, dx, hs, n, k, d, p, c, w, rfl, _⟩ := h
    rfl
  · obtain ⟨a, dx, hs, n, k, d, p, c, w, rfl, hh, ob, q⟩ := h
    refine ⟨_, (pss_cons (ps_asg (pv 1) (pg_tup rfl (pgs_cons (pg_name (i := 3) sc_Store___init__.nd rfl (Or.inl rfl)) (pgs_cons (pg_name (i := 4) sc_Store___init__.nd rfl (Or.inl rfl)) (pgs_cons (pg_name (i := 4) sc_Store___init__.nd rfl (Or.inl rfl)) (pgs_cons (pg_name (i := 5) sc_Store___init__.nd rfl (Or.inl rfl)) (pgs_cons (pg_name (i := 6) sc_Store___init__.nd rfl (Or.inl rfl)) pgs_nil)))))))
      (pss_cons (ps_fld (pv 0) (pv 2) rfl) (pss_cons (ps_fld (pv 0) (pv 5) rfl) (pss_cons (ps_fld (pv 0) (pv 6) rfl)
      (pss_cons (ps_fld (pv 0) (pe_op op_rep (pe_lst (pa_cons pe_non pa_nil)) (pv 3)) rfl) (pss_cons (ps_fld (pv 0) pe_dnewT rfl) (pss_one (ps_fld (pv 0) (pe_lst pa_nil) rfl)))))))), ?_⟩
    have nha : hs ≠ a := fun e => by have := hh.at_; rw [e, ob] at this; cases this
    refine ⟨.ref hs, rfl, hs, _, rfl, SqT.of hh.at_, rfl, _, _, rfl, _, _, rfl, _, _, rfl, _, _, rfl, _, _, rfl, rfl, ?_⟩
    refine ⟨.str (wayS w), rfl, .ref a, rfl, a, C, dx, _, rfl, ob, T.cl, T.way, (by show 0 < 1000; decide), ?_⟩
    refine ⟨iV p, rfl, .ref a, rfl, a, C, dx, _, rfl, upd_same, T.cl, T.pages, (by show 1 < 1000; decide), ?_⟩
    refine ⟨iV c, rfl, .ref a, rfl, a, C, dx, _, rfl, upd_same, T.cl, T.copies, (by show 2 < 1000; decide), ?_⟩
    rw [upd_upd, upd_upd]
    refine ⟨by show 1 ≤ sizeLine; decide, fun l nl => ⟨iV n, rfl, l, n, [.non], rfl, rfl, upd_same, by omega, by have := hh.n12; omega, ?_, fun c1 nc1 => ?_⟩⟩
    · show 1 * (n : Int).toNat ≤ sizeLine
      have := hh.n12
      rw [Int.toNat_natCast]
      exact Nat.le_trans (Nat.mul_le_mul (Nat.le_refl 1) this) (by decide)
    rw [Int.toNat_natCast, rep_one]
    have nal : a ≠ l := ne_of_none upd_same nl
    have nac : a ≠ c1 := ne_of_none (by rw [upd_ne nal]; exact upd_same) nc1
    refine ⟨.ref a, rfl, a, C, dx, _, rfl, (by rw [upd_ne nac, upd_ne nal]; exact upd_same), T.cl, T.cells, (by show 3 < 1000; decide), fun k1 nk1 => ?_⟩
    have nak : a ≠ k1 := ne_of_none upd_same nk1
    have nck : c1 ≠ k1 := ne_of_none (by rw [upd_ne nac.symm]; exact upd_same) nk1
    refine ⟨.ref a, rfl, a, C, dx, _, rfl, (by rw [upd_ne nak]; exact upd_same), T.cl, T.known, (by show 4 < 1000; decide), Nat.zero_le _, fun r1 nr1 => ?_⟩
    have nar : a ≠ r1 := ne_of_none upd_same nr1
    have nkr : k1 ≠ r1 := ne_of_none (by rw [upd_ne nak.symm]; exact upd_same) nr1
    have ncr : c1 ≠ r1 := ne_of_none (by rw [upd_ne nac.symm, upd_ne nck, upd_ne nac.symm]; exact upd_same) nr1
    refine ⟨.ref a, rfl, a, C, dx, _, rfl, (by rw [upd_ne nar]; exact upd_same), T.cl, T.rows, (by show 5 < 1000; decide), ?_⟩
    rw [upd_ne nal.symm] at nl
    have nc1' : H c1 = none := by
      cases h : H c1 with
      | none => rfl
      | some o =>
        by_cases e : c1 = l
        · rw [e, nl] at h
          cases h
        · rw [upd_ne e, upd_ne nac.symm, h] at nc1
          cases nc1
    have nlk : ∀ z : Addr, z ≠ a → z ≠ c1 → z ≠ l → ∀ o, H z = some o → (upd (upd (upd (upd H a (HO.ins C dx (putF "copies" (iV c) (putF "pages" (iV p) (putF "way" (V.str (wayS w)) []))))) l (HO.lst [V.non])) c1 (HO.lst (List.replicate n V.non))) a (HO.ins C dx (putF "cells" (V.ref c1) (putF "copies" (iV c) (putF "pages" (iV p) (putF "way" (V.str (wayS w)) [])))))) z = some o := fun z h1 h2 h3 o h => by
      rw [upd_ne h1, upd_ne h2, upd_ne h3, upd_ne h1]
      exact h
    have zl : ∀ z o, H z = some o → z ≠ l := fun z o h e => by rw [e, nl] at h; cases h
    have zc : ∀ z o, H z = some o → z ≠ c1 := fun z o h e => by rw [e, nc1'] at h; cases h
    have zk : ∀ z o, H z = some o → z ≠ k1 := fun z o h e => by
      rw [e] at h
      have := nlk k1 nak.symm nck.symm (zl _ _ h) o h
      rw [nk1] at this
      cases this
    have zr : ∀ z o, H z = some o → z ≠ r1 := fun z o h e => by
      rw [e] at h
      have := nlk r1 nar.symm ncr.symm (zl _ _ h) o h
      rw [upd_ne nar.symm, upd_ne nkr.symm, this] at nr1
      cases nr1
    have no : ∀ z, (∀ o, H z = some o → z ≠ z) → H z = none := fun z h => by
      cases e : H z with
      | none => rfl
      | some o => exact absurd rfl (h o e)
    refine q c1 k1 r1 _ ⟨upd_same, ⟨List.replicate n .non, ?_, ?_⟩, ⟨[], ?_, Nat.le_refl _, fun _ _ => trivial⟩, ?_, .nil, ?_⟩ nc1' (no k1 fun o h => zk _ o h) (no r1 fun o h => zr _ o h) ?_
    · rw [upd_ne nac.symm, upd_ne ncr, upd_ne nac.symm, upd_ne nck, upd_ne nac.symm]
      exact upd_same
    · rw [List.map_replicate]
      exact tvReps n
    · rw [upd_ne nak.symm, upd_ne nkr, upd_ne nak.symm]
      exact upd_same
    · rw [upd_ne nar.symm]
      exact upd_same
    · simp [ncr]
    · intro z o ne h
      rw [upd_ne ne, upd_ne (zr _ _ h), upd_ne ne, upd_ne (zk _ _ h)]
      exact nlk z ne (zc _ _ h) (zl _ _ h) o h
/-! ### which cells are sealed -/
theorem cut_take (xs : List V) (n : Nat) : cutV xs none (some (n : Int)) = xs.take n := by
  unfold cutV
  rw [HT.sIx_none, HT.sIx_nat, List.drop_zero, Nat.sub_zero, List.take_eq_take_iff]
  omega
structure OfP (K : PySem.W.Frag) (C Pt : Addr) (vs : List V) (H : Hp) (Q : VK) : Prop where
  go : ∃ (a : Addr) (q : SA) (s : StT) (n : Nat) (dr : Addr) (ds : List Nat), vs = [.ref a, .ref dr] ∧ StR C a q s n H ∧ H dr = some (.tup (ds.map iV)) ∧ ds.length ≤ 100 ∧ (∀ c ∈ ds, c < s.cells.length) ∧ s.rows.length ≤ 100 ∧ (∀ r ∈ s.rows, r.length ≤ 100000) ∧ GxR.TabG H Pt ∧
  ∀ t H', H' t = some (.tup ((s.fresh q.way ds).map iV)) → Ks K H H' → Q (.ref t) H'
def spOf (K : PySem.W.Frag) (C Pt : Addr) : Sp := fun vs H Q _ => OfP K C Pt vs H Q
theorem sum_take2 : ∀ (l : List (List Nat)) (b : Nat), (∀ r ∈ l, r.length ≤ b) → (l.map List.length).sum ≤ l.length * b
  | [], _, _ => Nat.zero_le _
  | r :: l, b, h => by
    have h1 := h r (List.mem_cons_self ..)
    have h2 := sum_take2 l b fun x hx => h x (List.mem_cons_of_mem _ hx)
    rw [List.map_cons, List.sum_cons, List.length_cons, Nat.succ_mul]
    omega
theorem ok_of {f fL c Pt : Addr} {fd fdL : FuncData} (F : MeP K "sealed_of" "Store.sealed_of" s_Store_sealed_of f fd) (T : StC K mg C) (B : Blt mg) (CA : CodeAt K mg base fd c Pt) (L : MeLive P w K mg base C fL fdL) : FnOk P w K mg base CX 3 f fd ["self", "drawn_cells"] (spOf K C Pt) := by
  obtain ⟨oc, od, dV, kV, doc, pm, an, cdv, ct, osl, rfl, lk, hcd, _, _⟩ := F.ex
  obtain rfl : cdv = .ref c := CA.e
  refine fn_of (k := 2) lk hcd sc_Store_sealed_of (fun vs H Q E h => ?_) (fun A outer s H vs Q E hr h => ?_)
  · obtain ⟨a, q, st, n, dr, ds, rfl, _⟩ := h
    rfl
  · obtain ⟨a, q, st, n, dr, ds, rfl, R, hd, hl, hlt, hrl, hrB, hT, k⟩ := h
    refine ⟨_, (pss_cons (ps_set (i := 2) sc_Store_sealed_of.nd rfl (Or.inl rfl) (pe_sumG (own := [("row", 3)]) (g := gName 3) (k := 1) hr (by rfl) B.sum CA.tb rfl (genOk_by (by rfl)) sc_Store_sealed_of.nd (pi_list (pe_fld (pv 0) rfl)) (fun A s H code fp pn r => pg_name (i := 3) sc_Store_sealed_of.nd rfl (Or.inl rfl)) (fun A s H code fp pn r => pts_nil)
        (fun A s H code fp pn r => pe_callB (call_len_seq : CallR _ _ (rLenK K)) (by rfl) B.len (by decide +kernel) (pa_cons (pv 3) pa_nil))))
      (pss_cons (ps_if (PW.pt (pw_and (pt_cmpR op_eq (pe_fld (pv 0) rfl) pe_str (nomark _)) (pw_and1 (pt_cmpR op_eq (pv 2) pe_int (nomark _))))) (pss_one (ps_ret (pe_tup pa_nil))) pss_nil)
      (pss_cons (ps_if (pt_cmpR op_eq (pe_fld (pv 0) rfl) pe_str (nomark _)) (pss_one (ps_ret (pe_tupG (own := [("cell", 4)]) (g := gName 4) (k := 1) hr (by rfl) B.tuple CA.tb rfl (genOk_by (by rfl)) sc_Store_sealed_of.nd (pi_tup (pv 1)) (fun A s H code fp pn r => pg_name (i := 4) sc_Store_sealed_of.nd rfl (Or.inl rfl))
          (fun A s H code fp pn r => pts_one (pt_not (pt_val (pe_meth (pv 0) T.cl L.m L.G r L.b .nil pass0 (pa_cons (pv 4) pa_nil))))) (fun A s H code fp pn r => pv 4)))) pss_nil)
      (pss_cons (ps_if (pt_cmpR op_eq (pe_fld (pv 0) rfl) pe_str (nomark _)) (pss_one (ps_ret (pe_slice sl_tupA (pv 1) po_none (po_some (pv 2))))) pss_nil)
      (pss_one (ps_ret (pv 1))))))), ?_⟩
    have hrw := R.rw
    refine ⟨.ref a, rfl, a, C, q.dx, _, _, rfl, R.ob, T.cl, T.rows, st_rows, q.r, rfl, ⟨_, SqL.of hrw⟩, hT, fun H2 tb => ?_⟩
    have hlen : q.rs.length = st.rows.length := R.ro.length
    refine gt_list (xs := q.rs.map V.ref) (fun (c : Int) i H' => c = (((st.rows.take i).map List.length).sum : Nat) ∧ Ks K H H' ∧ GxR.TabG H' Pt) (fun _ i H' _ w => SqL.of (w.2.1.l _ _ hrw)) (fun c i x H' hx w => ?_) (fun c H' w => ?_) (c0 := 0) ⟨rfl, Ks.tab CA.sk hT tb, tb.1⟩
    · obtain ⟨rfl, ks, tg⟩ := w
      have hi : i < q.rs.length := by have := (List.getElem?_eq_some_iff.mp hx).1; rwa [List.length_map] at this
      rw [List.getElem?_map, List.getElem?_eq_getElem hi] at hx
      obtain rfl := Option.some.inj hx
      obtain ⟨row, hrow⟩ : ∃ row, st.rows[i]? = some row := ⟨_, List.getElem?_eq_getElem (hlen ▸ hi)⟩
      obtain ⟨rb, hrb, hrh⟩ := paired_get2 R.ro hrow
      rw [List.getElem?_eq_getElem hi] at hrb
      have erb := Option.some.inj hrb
      rw [erb]
      have e : ((st.rows.take (i + 1)).map List.length).sum = ((st.rows.take i).map List.length).sum + row.length := by
        rw [takeSnoc hrow, List.map_append, List.sum_append]
        simp
      have b1 := sum_take2 (st.rows.take (i + 1)) 100000 fun r hr => hrB r (List.mem_of_mem_take hr)
      have b2 : (st.rows.take (i + 1)).length * 100000 ≤ 100 * 100000 := Nat.mul_le_mul (by rw [List.length_take]; omega) (Nat.le_refl _)
      have hrl0 := ks.l _ _ hrh
      refine ⟨rfl, yes_go ⟨.ref rb, rfl, rb, _, rfl, .inl (SqL.of hrl0), row.length, by rw [List.length_map], ⟨by omega, by omega⟩, ⟨by omega, by omega⟩, ?_, ks, tg⟩⟩
      rw [e]
      omega
    · obtain ⟨rfl, ks, tg⟩ := w
      rw [List.length_map, hlen, List.take_length]
      have R1 := R.ks ks
      have hd1 := ks.t _ _ hd
      have eqs : ∀ u : Way, decide (V.str (wayS q.way) = V.str (wayS u)) = decide (q.way = u) := fun u => way_is q.way u
      refine ⟨.ref a, rfl, a, C, q.dx, _, _, rfl, R1.ob, T.cl, T.way, st_way, rfl, _, rfl, ?_⟩
      rw [show decide (V.str (wayS q.way) = V.str (Str.ofString "idle")) = decide (q.way = .idle) from eqs .idle]
      cases hw : q.way with
      | tru =>
        refine iteF (iteF ⟨.ref a, rfl, a, C, q.dx, _, _, rfl, R1.ob, T.cl, T.way, st_way, rfl, _, rfl, ?_⟩)
        rw [show decide (V.str (wayS q.way) = V.str (Str.ofString "kept")) = decide (q.way = .kept) from eqs .kept, hw]
        refine iteF ⟨.ref a, rfl, a, C, q.dx, _, _, rfl, R1.ob, T.cl, T.way, st_way, rfl, _, rfl, ?_⟩
        rw [show decide (V.str (wayS q.way) = V.str (Str.ofString "need")) = decide (q.way = .need) from eqs .need, hw]
        exact iteF ⟨.ref dr, rfl, k dr H' (by rw [hd1]; unfold StT.fresh; rw [hw]; rfl) ks⟩
      | free =>
        refine iteF (iteF ⟨.ref a, rfl, a, C, q.dx, _, _, rfl, R1.ob, T.cl, T.way, st_way, rfl, _, rfl, ?_⟩)
        rw [show decide (V.str (wayS q.way) = V.str (Str.ofString "kept")) = decide (q.way = .kept) from eqs .kept, hw]
        refine iteF ⟨.ref a, rfl, a, C, q.dx, _, _, rfl, R1.ob, T.cl, T.way, st_way, rfl, _, rfl, ?_⟩
        rw [show decide (V.str (wayS q.way) = V.str (Str.ofString "need")) = decide (q.way = .need) from eqs .need, hw]
        exact iteF ⟨.ref dr, rfl, k dr H' (by rw [hd1]; unfold StT.fresh; rw [hw]; rfl) ks⟩
      | lower =>
        refine iteF (iteF ⟨.ref a, rfl, a, C, q.dx, _, _, rfl, R1.ob, T.cl, T.way, st_way, rfl, _, rfl, ?_⟩)
        rw [show decide (V.str (wayS q.way) = V.str (Str.ofString "kept")) = decide (q.way = .kept) from eqs .kept, hw]
        refine iteF ⟨.ref a, rfl, a, C, q.dx, _, _, rfl, R1.ob, T.cl, T.way, st_way, rfl, _, rfl, ?_⟩
        rw [show decide (V.str (wayS q.way) = V.str (Str.ofString "need")) = decide (q.way = .need) from eqs .need, hw]
        exact iteF ⟨.ref dr, rfl, k dr H' (by rw [hd1]; unfold StT.fresh; rw [hw]; rfl) ks⟩
      | idle =>
        refine iteT ⟨_, rfl, rfl, _, rfl, ite2 (fun z => ?_) (fun z => ?_)⟩
        · have z' : manyOf st.rows = 0 := by have := of_decide_eq_true z; injection this with this; exact Int.ofNat.inj this
          refine ⟨by show 0 ≤ sizeLine; decide, fun p np => ?_⟩
          refine k p _ ?_ (ks.trans (Ks.ex (Ex.new np)))
          rw [upd_same]
          unfold StT.fresh
          rw [hw]
          show _ = some (HO.tup ((if manyOf st.rows = 0 then [] else ds).map iV))
          rw [if_pos z']
          rfl
        · have z' : ¬ manyOf st.rows = 0 := fun e => z (decide_eq_true (by unfold manyOf at e; rw [e] <;> rfl))
          refine ⟨.ref a, rfl, a, C, q.dx, _, _, rfl, R1.ob, T.cl, T.way, st_way, rfl, _, rfl, ?_⟩
          rw [show decide (V.str (wayS q.way) = V.str (Str.ofString "kept")) = decide (q.way = .kept) from eqs .kept, hw]
          refine iteF ⟨.ref a, rfl, a, C, q.dx, _, _, rfl, R1.ob, T.cl, T.way, st_way, rfl, _, rfl, ?_⟩
          rw [show decide (V.str (wayS q.way) = V.str (Str.ofString "need")) = decide (q.way = .need) from eqs .need, hw]
          refine iteF ⟨.ref dr, rfl, k dr H' ?_ ks⟩
          rw [hd1]
          unfold StT.fresh
          rw [hw]
          show _ = some (HO.tup ((if manyOf st.rows = 0 then [] else ds).map iV))
          rw [if_neg z']
      | need =>
        refine iteF (iteF ⟨.ref a, rfl, a, C, q.dx, _, _, rfl, R1.ob, T.cl, T.way, st_way, rfl, _, rfl, ?_⟩)
        rw [show decide (V.str (wayS q.way) = V.str (Str.ofString "kept")) = decide (q.way = .kept) from eqs .kept, hw]
        refine iteF ⟨.ref a, rfl, a, C, q.dx, _, _, rfl, R1.ob, T.cl, T.way, st_way, rfl, _, rfl, ?_⟩
        rw [show decide (V.str (wayS q.way) = V.str (Str.ofString "need")) = decide (q.way = .need) from eqs .need, hw]
        refine iteT ⟨.ref dr, rfl, ?_⟩
        dsimp only [tNoPart]
        have ct : ∀ m : Nat, cutV (ds.map iV) none (some (m : Int)) = (ds.take m).map iV := fun m => by rw [cut_take, List.map_take]
        have fr : st.fresh q.way ds = ds.take (manyOf st.rows) := by
          unfold StT.fresh
          rw [hw]
          rfl
        refine ⟨_, rfl, _, rfl, dr, _, rfl, SqT.of hd1, fun full => ?_, fun nf p np => ?_⟩
        · refine k dr H' ?_ ks
          have e2 := full.2
          rw [HT.sIx_nat, List.length_map] at e2
          rw [hd1, fr, List.take_of_length_le (show ds.length ≤ manyOf st.rows by unfold manyOf; omega)]
        · refine k p _ ?_ (ks.trans (Ks.ex (Ex.new np)))
          rw [upd_same, ct, fr]
          rfl
      | kept =>
        refine iteF (iteF ⟨.ref a, rfl, a, C, q.dx, _, _, rfl, R1.ob, T.cl, T.way, st_way, rfl, _, rfl, ?_⟩)
        rw [show decide (V.str (wayS q.way) = V.str (Str.ofString "kept")) = decide (q.way = .kept) from eqs .kept, hw]
        refine iteT ⟨.ref dr, rfl, dr, rfl, ⟨_, SqT.of hd1⟩, tg, fun H3 tb3 => ?_⟩
        have k3 : Ks K H' H3 := Ks.tab CA.sk tg tb3
        refine gt_tup (xs := ds.map iV) (fun (ys : List V) i H4 => ys = ((ds.take i).filter fun c => !liveAt st.known st.cells c).map iV ∧ Ks K H' H4) (fun _ i H4 _ w => SqT.of (w.2.t _ _ hd1)) (fun ys i x H4 hx w => ?_) (fun ys H4 w => ?_) (c0 := []) ⟨rfl, k3⟩
        · obtain ⟨rfl, k4⟩ := w
          rw [List.getElem?_map] at hx
          obtain ⟨c, hc, rfl⟩ := Option.map_eq_some_iff.mp hx
          have hcm := List.mem_of_getElem? hc
          refine ⟨rfl, .ref a, rfl, a, q.dx, _, rfl, (R1.ks k4).ob, rfl, iV c, rfl, a, q, st.cells, st.known, n, c, rfl, (R1.ks k4).lk, hlt c hcm, fun H5 e5 => ⟨_, rfl, ?_⟩⟩
          have tk : ((ds.take (i + 1)).filter fun c => !liveAt st.known st.cells c) = ((ds.take i).filter fun c => !liveAt st.known st.cells c) ++ (if (!liveAt st.known st.cells c) = true then [c] else []) := by
            rw [takeSnoc hc, List.filter_append, List.filter_cons]
            split <;> rfl
          have k5 := k4.trans (Ks.ex e5)
          cases lv : liveAt st.known st.cells c with
          | true =>
            rw [lv] at tk
            exact iteF ⟨by rw [tk, if_neg (by decide), List.append_nil], k5⟩
          | false =>
            rw [lv] at tk
            refine iteT ⟨iV c, rfl, ?_, by rw [tk, if_pos (show (!false) = true from rfl), List.map_append] <;> rfl, k5⟩
            rw [List.length_map]
            exact Nat.lt_of_le_of_lt (List.length_filter_le _ _) (Nat.lt_of_le_of_lt (List.length_take_le' _ _) (Nat.lt_of_le_of_lt hl (by decide)))
        · obtain ⟨rfl, k4⟩ := w
          rw [show ds.take (ds.map iV).length = ds by rw [List.length_map, List.take_length]]
          refine ⟨?_, fun p np => ?_⟩
          · rw [List.length_map]
            exact Nat.le_trans (List.length_filter_le _ _) (Nat.le_trans hl (by decide))
          · refine k p _ ?_ ((ks.trans k4).trans (Ks.ex (Ex.new np)))
            rw [upd_same]
            unfold StT.fresh
            rw [hw]
            rfl
end
end K04

set_option maxHeartbeats 4000000
namespace K04
open PySem PySem.Spec PyProof.Rows L2 Hd Evl
section
variable {CX : CXT} {P : Program} {w : World} {K : PySem.W.Frag} {mg : Str → Option Value} {base : Heap} {C : Addr}
/-! ### the drawers, one after the other -/
theorem rg_nat (n : Nat) : rgV 0 (n : Int) = (List.range n).map iV := by
  unfold rgV
  rw [Int.sub_zero, Int.toNat_natCast]
  refine List.map_congr_left fun i _ => ?_
  rw [Int.zero_add]
structure SeqP (C : Addr) (vs : List V) (H : Hp) (Q : VK) : Prop where
  go : ∃ (a : Addr) (q : SA) (m : Nat), vs = [.ref a] ∧ H a = some (.ins C q.dx (stF q)) ∧ H q.r = some (.lst (q.rs.map V.ref)) ∧ q.rs.length = m ∧ m ≤ 100 ∧
  ∀ D H', H D = none → H' D = some (.lst ((orderOf q.way m).map iV)) → Ex H H' → Q (.ref D) H'
def spSeq (C : Addr) : Sp := fun vs H Q _ => SeqP C vs H Q
theorem ok_seq {f : Addr} {fd : FuncData} (F : MeP K "sequence" "Store.sequence" s_Store_sequence f fd) (T : StC K mg C) (B : Blt mg) : FnOk P w K mg base CX 1 f fd ["self"] (spSeq C) := by
  refine F.ok (CX := CX) sc_Store_sequence (fun vs H Q E h => ?_) (fun cdv A outer s H vs Q E hr h => ?_)
  · obtain ⟨a, q, m, rfl, _⟩ := h
    rfl
  · obtain ⟨a, q, m, rfl, ob, hrw, hm, hm2, k⟩ := h
    refine ⟨_, (pss_cons (ps_set (i := 1) sc_Store_sequence.nd rfl (Or.inl rfl) (pe_listRg rfl (by rfl) B.list (prg_1 (by rfl) B.range (pe_callB call_len_seq (by rfl) B.len (by decide +kernel) (pa_cons (pe_fld (pv 0) rfl) pa_nil)))))
      (pss_cons (ps_if (pt_cmpR op_eq (pe_fld (pv 0) rfl) pe_str (nomark _)) (pss_one (ps_ret (pe_revL (pv 1)))) pss_nil)
      (pss_one (ps_ret (pv 1))))), ?_⟩
    refine ⟨.ref a, rfl, a, C, q.dx, _, _, rfl, ob, T.cl, T.rows, st_rows, q.r, _, rfl, .inl (SqL.of hrw), _, rfl, ?_⟩
    rw [List.length_map, hm]
    refine ⟨⟨by omega, by omega, by omega, by omega, by omega⟩, fun D nD => ?_⟩
    rw [rg_nat]
    have eD := Ex.new (o := HO.lst ((List.range m).map iV)) nD
    refine ⟨.ref a, rfl, a, C, q.dx, _, _, rfl, eD _ _ ob, T.cl, T.way, st_way, rfl, _, rfl, ?_⟩
    rw [show decide (V.str (wayS q.way) = V.str (Str.ofString "lower")) = decide (q.way = .lower) from way_is q.way .lower]
    refine ite2 (fun c => ?_) (fun c => ?_)
    · refine ⟨.ref D, rfl, D, _, rfl, SqL.of upd_same, fun E2 nE => ?_⟩
      refine k E2 _ (Ex.none eD nE) ?_ (eD.trans (Ex.new nE))
      rw [upd_same, orderOf, if_pos (of_decide_eq_true c), List.map_reverse]
    · refine ⟨.ref D, rfl, k D _ nD ?_ eD⟩
      rw [upd_same, orderOf, if_neg (fun z => c (decide_eq_true z))]
/-! ### what is live takes its cells again -/
/-- the live cells: a dict in the cells' sequence -/
structure LvAt (H : Hp) (k : Addr) (items : List (Nat × Held)) : Prop where
  go : ∃ kvs : List (Key × V), H k = some (.dK kvs) ∧ Paired (fun kv x => kv.1 = (.inl (x.1 : Int) : Key) ∧ Tv H kv.2 (heldP x.2)) kvs items
theorem LvAt.mv {H H1 : Hp} {k : Addr} {items : List (Nat × Held)} (h : LvAt H k items) (kt : Kt H H1) (e : ∀ o, H k = some o → H1 k = some o) : LvAt H1 k items := by
  obtain ⟨kvs, a, p⟩ := h.go
  exact ⟨kvs, e _ a, paired_im2 p fun x _ y h => ⟨h.1, h.2.mv kt⟩⟩
theorem LvAt.ex {H H1 : Hp} {k : Addr} {items : List (Nat × Held)} (h : LvAt H k items) (e : Ex H H1) : LvAt H1 k items := h.mv (Kt.ex e) fun o => e k o
theorem LvAt.has {H : Hp} {k : Addr} {items : List (Nat × Held)} (h : LvAt H k items) (c : Nat) : ∃ o, DGet H k (nV c) o ∧ o.isSome = decide (c ∈ items.map (·.1)) := by
  obtain ⟨kvs, a, p⟩ := h.go
  refine ⟨_, DGet.k (k := .inl (c : Int)) a, ?_⟩
  rw [← valV_any]
  clear a h
  induction p with
  | nil => rfl
  | @cons x y xs ys r t ih =>
    rw [List.any_cons, ih, r.1, List.map_cons, Bool.eq_iff_iff]
    simp only [Bool.or_eq_true, decide_eq_true_eq, List.mem_cons]
    constructor
    · rintro (z | z)
      · injection z with z
        exact .inl (Int.ofNat.inj z.symm)
      · exact .inr z
    · rintro (z | z)
      · exact .inl (by rw [z])
      · exact .inr z
structure AgainP (C : Addr) (vs : List V) (H : Hp) (Q : VK) : Prop where
  go : ∃ (a : Addr) (q : SA) (d : Nat) (lv tk rb : Addr) (items : List (Nat × Held)) (row : List Nat) (t : TakenT) (n : Nat), vs = [.ref a, iV d, .ref lv, .ref tk] ∧ H a = some (.ins C q.dx (stF q)) ∧ H q.r = some (.lst (q.rs.map V.ref)) ∧ q.rs[d]? = some rb ∧ q.r ≠ rb ∧
  H rb = some (.lst (row.map iV)) ∧ LvAt H lv items ∧ TkAt H tk t n ∧ lv ≠ tk ∧ items.length ≤ 100 ∧ row.length ≤ 100000 ∧ n ≤ 100000 ∧
  ∀ H', H' rb = some (.lst ((items.foldl (again1 d) (row, t)).1.map iV)) → TkAt H' tk (items.foldl (again1 d) (row, t)).2 (n + items.length) → Kx (fun b => b = rb ∨ b = tk) H H' → Q .non H'
def spAgain (C : Addr) : Sp := fun vs H Q _ => AgainP C vs H Q
theorem again_row (d : Nat) (s : List Nat × TakenT) (x : Nat × Held) : (again1 d s x).1.length ≤ s.1.length + 1 := by
  unfold again1
  split
  · split
    · simp
    · simp
  · simp
theorem again_rows (d : Nat) : ∀ (l : List (Nat × Held)) (s : List Nat × TakenT), (l.foldl (again1 d) s).1.length ≤ s.1.length + l.length
  | [], s => Nat.le_refl _
  | x :: l, s => by
    rw [List.foldl_cons, List.length_cons]
    have h1 := again_rows d l (again1 d s x)
    have h2 := again_row d s x
    omega
theorem ok_again {f : Addr} {fd : FuncData} (F : MeP K "take_again" "Store.take_again" s_Store_take_again f fd) (T : StC K mg C) : FnOk P w K mg base CX 1 f fd ["self", "drawer", "live", "taken"] (spAgain C) := by
  refine F.ok (CX := CX) sc_Store_take_again (fun vs H Q E h => ?_) (fun cdv A outer s H vs Q E hr h => ?_)
  · obtain ⟨a, q, d, lv, tk, rb, items, row, t, n, rfl, _⟩ := h
    rfl
  · obtain ⟨a, q, d, lv, tk, rb, items, row, t, n, rfl, ob, hrw, hrb, nrb, hrow, hlv, htk, nlt, hi, hrl, hn, k⟩ := h
    have hu := hu_of hr
    refine ⟨_, (pss_one (ps_lock (ps_for (passes_of rfl) rfl (pi_items (pv 2)) (pg_tup rfl (pgs_cons (pg_name (i := 4) sc_Store_take_again.nd rfl (Or.inl rfl)) (pgs_cons (pg_name (i := 5) sc_Store_take_again.nd rfl (Or.inl rfl)) pgs_nil)))
      (pss_one (ps_if (PW.pt (pw_and (pt_cmpR op_eq (pe_ix ix_tup (pv 5) pe_int (fun _ _ => rfl)) (pv 1) (nomark _)) (pw_and1 (pt_cmp (pc_din hu (pv 4) (pv 3))))))
        (pss_one (ps_expr (pe_bm PySem.F.plainAttrs_list PySem.F.slot_list_append PySem.F.type_list_append mt_append (pe_ix ix_list (pe_fld (pv 0) rfl) (pv 1) (fun _ _ => rfl)) (pa_cons (pe_ix ix_tup (pv 5) pe_int (fun _ _ => rfl)) pa_nil))))
        (pss_one (ps_if (pt_cmpR op_eq (pe_ix ix_tup (pv 5) pe_int (fun _ _ => rfl)) (pv 1) (nomark _)) (pss_one (ps_dput hu (pv 3) (pv 4) (pv 5) rfl)) pss_nil))))))), ?_⟩
    obtain ⟨kvs, hk, pr⟩ := hlv.go
    refine ⟨lv, _, hk, True.intro, fun od => ?_⟩
    have F0 : Kx (· = lv) H (upd H lv (.frz od (.dK kvs))) := Kx.put rfl
    have nal : a ≠ lv := ne_of ob hk (fun z => by cases z)
    have nrl : q.r ≠ lv := ne_of hrw hk (fun z => by cases z)
    have nbl : rb ≠ lv := ne_of hrow hk (fun z => by cases z)
    have nar : a ≠ rb := ne_of ob hrow (fun z => by cases z)
    have nat : a ≠ tk := by
      obtain ⟨kv2, h2, _⟩ := htk.go
      exact ne_of ob h2 (fun z => by cases z)
    have nrt : q.r ≠ tk := by
      obtain ⟨kv2, h2, _⟩ := htk.go
      exact ne_of hrw h2 (fun z => by cases z)
    have nbt : rb ≠ tk := by
      obtain ⟨kv2, h2, _⟩ := htk.go
      exact ne_of hrow h2 (fun z => by cases z)
    have kt0 : Kt H (upd H lv (.frz od (.dK kvs))) := F0.kt fun b e xs => e ▸ fun z => by rw [hk] at z; cases z
    refine ⟨.ref lv, rfl, lv, od, kvs, rfl, upd_same, ?_⟩
    have hlen : kvs.length = items.length := pr.length
    refine for_it walk_items (fun i σ G => ∃ y4 y5, σ = [some (.ref a), some (iV d), some (.ref lv), some (.ref tk), y4, y5] ∧ G lv = some (.frz od (.dK kvs)) ∧ G rb = some (.lst (((items.take i).foldl (again1 d) (row, t)).1.map iV)) ∧ TkAt G tk ((items.take i).foldl (again1 d) (row, t)).2 (n + i) ∧ Kx (fun b => b = rb ∨ b = tk) (upd H lv (.frz od (.dK kvs))) G)
      ⟨none, none, rfl, upd_same, (F0 _ _ nbl hrow), htk.mv kt0 (fun o h => F0 _ _ nlt.symm h), Kx.refl⟩ (fun i σ G _ w => by obtain ⟨_, _, _, h, _⟩ := w; exact h) (fun i x σ G G' hlt w y => ?_) (fun σ G w => ?_)
    · obtain ⟨y4, y5, rfl, gl, gr, gt, kx⟩ := w
      obtain ⟨T1, x1, y1, rfl, nT, rfl, ex1, ey1⟩ := y
      have il : i < items.length := hlen ▸ hlt
      obtain ⟨⟨c, h⟩, hit⟩ : ∃ x, items[i]? = some x := ⟨_, List.getElem?_eq_getElem il⟩
      obtain ⟨kv, hkv, hk1, hk2⟩ := paired_get2 pr hit
      have step := foldTake (f := again1 d) (z := (row, t)) hit
      replace ex1 : kvs[i]?.map (fun kv => kV kv.1) = some x1 := ex1
      replace ey1 : kvs[i]?.map Prod.snd = some y1 := ey1
      rw [hkv] at ex1 ey1
      obtain rfl : kV kv.1 = x1 := Option.some.inj ex1
      obtain rfl : kv.2 = y1 := Option.some.inj ey1
      simp only at hk1 hk2
      have ek : kV kv.1 = iV c := by rw [hk1] <;> rfl
      rw [ek]
      have en := Ex.new (o := HO.tup [iV c, kv.2]) nT
      have ktG : Kt (upd H lv (.frz od (.dK kvs))) G := kx.kt fun b e xs z => by
        rcases e with e | e
        · rw [e, upd_ne nbl, hrow] at z
          cases z
        · obtain ⟨kv2, h2, _⟩ := htk.go
          rw [e, upd_ne nlt.symm, h2] at z
          cases z
      have tvh := ((hk2.mv kt0).mv ktG).mv (Kt.ex en)
      obtain ⟨t2, e2, ht2⟩ := tvHeld tvh
      rw [e2] at ht2 tvh en ⊢
      have at_ : ∀ b o, b ≠ lv → b ≠ rb → b ≠ tk → H b = some o → (upd G T1 (HO.tup [iV c, .ref t2])) b = some o := fun b o n1 n2 n3 h => en _ _ (kx b o (fun z => z.elim n2 n3) (by rw [upd_ne n1]; exact h))
      have obG := at_ a _ nal nar nat ob
      have rwG := at_ q.r _ nrl nrb nrt hrw
      have gr' := en _ _ gr
      have gt' := gt.ex en
      have gl' := en _ _ gl
      have kx' : Kx (fun b => b = rb ∨ b = tk) (upd H lv (.frz od (.dK kvs))) (upd G T1 (HO.tup [iV c, .ref t2])) := kx.trans (Kx.ex en)
      generalize hS : (items.take i).foldl (again1 d) (row, t) = S at gr gt gr' gt' step
      have hSl : S.1.length ≤ 100000 + 100 := by
        rw [← hS]
        refine Nat.le_trans (again_rows d _ _) (Nat.add_le_add hrl ?_)
        rw [List.length_take]
        omega
      refine ⟨T1, _, rfl, SqT.of upd_same, rfl, _, _, rfl, _, _, rfl, rfl, ?_⟩
      refine ⟨.ref t2, rfl, t2, _, _, iV h.1, rfl, rfl, SqT.of ht2, atI_nat (j := 0) rfl, iV d, rfl, rfl, _, rfl, ite2 (fun cd => ?_) (fun cd => ?_)⟩
      · have hd : h.1 = d := by have := of_decide_eq_true cd; injection this with this; exact Int.ofNat.inj this
        obtain ⟨o, dg, kv3⟩ := gt'.get c
        refine ⟨iV c, rfl, .ref tk, rfl, tk, o, rfl, dg, _, rfl, ?_⟩
        rw [kv3.some_iff]
        refine ite2 (fun ct => ?_) (fun ct => ?_)
        · refine ⟨.ref a, rfl, a, C, q.dx, _, _, rfl, obG, T.cl, T.rows, st_rows, iV d, rfl, q.r, _, _, .ref rb, rfl, rfl, SqL.of rwG, atI_nat (by rw [List.getElem?_map, hrb] <;> rfl), .inl ⟨rfl, _, SqL.of gr'⟩, .ref t2, rfl, t2, _, _, iV h.2.1, rfl, rfl, SqT.of ht2, atI_nat (j := 1) rfl, rb, _, _, rfl, rfl, gr', ?_, ?_⟩
          · rw [List.length_map]
            exact Nat.lt_of_le_of_lt hSl (by decide)
          · have st : (again1 d S (c, h)) = (S.1 ++ [h.2.1], S.2) := by
              unfold again1
              rw [if_pos hd, if_pos ct]
            have kp : Kx (· = rb) (upd G T1 (HO.tup [iV c, .ref t2])) _ := Kx.put (o := HO.lst (S.1.map iV ++ [iV h.2.1])) rfl
            have ktp := kp.kt fun b e xs => e ▸ fun z => by rw [gr'] at z; cases z
            refine ⟨_, _, rfl, by rw [upd_ne nbl.symm]; exact gl', ?_, ?_, kx'.trans (kp.wk fun b e => .inl e)⟩
            · rw [upd_same, step, st, List.map_append]
              rfl
            · rw [step, st]
              exact (gt'.mv ktp fun o h => by rw [upd_ne nbt.symm]; exact h).le (by omega)
        · refine ⟨.ref t2, rfl, t2, _, _, iV h.1, rfl, rfl, SqT.of ht2, atI_nat (j := 0) rfl, iV d, rfl, rfl, _, rfl, ?_⟩
          rw [cd]
          obtain ⟨H', dp, tk', kp⟩ := gt'.put (c := c) (x := h) (v := .ref t2) tvh (Nat.lt_of_le_of_lt (Nat.add_le_add hn (Nat.le_trans (Nat.le_of_lt il) hi)) (by decide))
          refine iteT ⟨.ref t2, rfl, .ref tk, rfl, iV c, rfl, tk, H', rfl, dp, ?_⟩
          have st : (again1 d S (c, h)) = (S.1, tkSet S.2 c h) := by
            unfold again1
            rw [if_pos hd, if_neg ct]
          refine ⟨_, _, rfl, kp _ _ nlt gl', ?_, ?_, kx'.trans (kp.wk fun b e => .inr e)⟩
          · rw [step, st]
            exact kp _ _ nbt gr'
          · rw [step, st]
            exact tk'
      · have hd : ¬ h.1 = d := fun e => cd (decide_eq_true (by rw [e]))
        refine iteF ⟨.ref t2, rfl, t2, _, _, iV h.1, rfl, rfl, SqT.of ht2, atI_nat (j := 0) rfl, iV d, rfl, rfl, _, rfl, ?_⟩
        rw [Bool.not_eq_true] at cd
        rw [cd]
        have st : (again1 d S (c, h)) = S := if_neg hd
        refine iteF ⟨_, _, rfl, gl', ?_, ?_, kx'⟩
        · rw [step, st]
          exact gr'
        · rw [step, st]
          exact gt'.le (by omega)
    · obtain ⟨y4, y5, rfl, gl, gr, gt, kx⟩ := w
      rw [hlen, List.take_length] at gr gt
      refine ⟨gl, ?_⟩
      have ktl : Kt G (upd G lv (.dK kvs)) := (Kx.put (S := (· = lv)) rfl).kt fun b e xs => e ▸ fun z => by rw [gl] at z; cases z
      refine k _ (by rw [upd_ne nbl]; exact gr) (gt.mv ktl fun o h => by rw [upd_ne nlt.symm]; exact h) fun b o nb h => ?_
      by_cases e : b = lv
      · rw [e, hk] at h
        rw [e, upd_same]
        exact h
      · rw [upd_ne e]
        exact kx b o nb (by rw [upd_ne e]; exact h)
end
end K04

set_option maxHeartbeats 4000000
namespace K04
open PySem PySem.Spec PyProof.Rows L2 Hd Evl
section
variable {CX : CXT} {P : Program} {w : World} {K : PySem.W.Frag} {mg : Str → Option Value} {base : Heap} {C : Addr}
/-! ### waiting copies take the cells that are bare -/
theorem live_mem {k : KnownT} {cs : CellsT} {fresh : List Nat} {c : Nat} (h : c ∈ fresh) : decide (c ∈ (liveItems k cs fresh).map (·.1)) = liveAt k cs c := by
  have e : (liveItems k cs fresh).map (·.1) = fresh.filter (liveAt k cs) := by
    unfold liveItems
    rw [List.map_map]
    exact List.map_id' _
  rw [e, Bool.eq_iff_iff, decide_eq_true_eq, List.mem_filter]
  exact ⟨fun z => z.2, fun z => ⟨h, z⟩⟩
structure BareP (C : Addr) (vs : List V) (H : Hp) (Q : VK) : Prop where
  go : ∃ (a : Addr) (q : SA) (d : Nat) (fr lv tk rb : Addr) (fresh : List Nat) (cs : CellsT) (kn : KnownT) (row : List Nat) (t : TakenT) (m n : Nat), vs = [.ref a, iV d, .ref fr, .ref lv, .ref tk] ∧ H a = some (.ins C q.dx (stF q)) ∧ H q.r = some (.lst (q.rs.map V.ref)) ∧ q.rs[d]? = some rb ∧ q.r ≠ rb ∧
  H rb = some (.lst (row.map iV)) ∧ H fr = some (.tup (fresh.map iV)) ∧ LvAt H lv (liveItems kn cs fresh) ∧ KnAt H q.k kn m ∧ TkAt H tk t n ∧ lv ≠ tk ∧ fresh.length ≤ 100 ∧ n ≤ 100000 ∧ (∀ p ∈ row, (kn d p).isSome = true) ∧
  ∀ H', H' rb = some (.lst ((fresh.foldl (bare1 kn d (shutB q.way kn cs)) (row, t)).1.map iV)) → TkAt H' tk (fresh.foldl (bare1 kn d (shutB q.way kn cs)) (row, t)).2 (n + fresh.length) → Kx (fun b => b = rb ∨ b = tk) H H' → Q .non H'
def spBare (C : Addr) : Sp := fun vs H Q _ => BareP C vs H Q
theorem bare_sub (k : KnownT) (d : Nat) (sh : Nat → Bool) (s : List Nat × TakenT) (c : Nat) : ∀ p, p ∈ (bare1 k d sh s c).1 → p ∈ s.1 := by
  intro p h
  unfold bare1 at h
  cases e : s.1 with
  | nil =>
    rw [e] at h
    rw [← e]
    exact h
  | cons x r =>
    rw [e] at h
    by_cases z : ((s.2 c).isSome || sh c) = true
    · simp only [z, if_true] at h
      rw [← e]
      exact h
    · simp only [z, if_false, Bool.false_eq_true] at h
      exact List.mem_cons_of_mem _ h
theorem bare_subs (k : KnownT) (d : Nat) (sh : Nat → Bool) : ∀ (l : List Nat) (s : List Nat × TakenT), ∀ p, p ∈ (l.foldl (bare1 k d sh) s).1 → p ∈ s.1
  | [], _, _, h => h
  | c :: l, s, p, h => bare_sub k d sh s c p (bare_subs k d sh l _ p h)
theorem ok_bare {f : Addr} {fd : FuncData} (F : MeP K "take_bare" "Store.take_bare" s_Store_take_bare f fd) (T : StC K mg C) : FnOk P w K mg base CX 1 f fd ["self", "drawer", "fresh", "live", "taken"] (spBare C) := by
  refine F.ok (CX := CX) sc_Store_take_bare (fun vs H Q E h => ?_) (fun cdv A outer s H vs Q E hr h => ?_)
  · obtain ⟨a, q, d, fr, lv, tk, rb, fresh, cs, kn, row, t, m, n, rfl, _⟩ := h
    rfl
  · obtain ⟨a, q, d, fr, lv, tk, rb, fresh, cs, kn, row, t, m, n, rfl, ob, hrw, hrb, nrb, hrow, hfr, hlv, hkn, htk, nlt, hf, hn, hks, k⟩ := h
    have hu := hu_of hr
    refine ⟨_, (pss_cons (ps_set (i := 5) sc_Store_take_bare.nd rfl (Or.inl rfl) (pe_ix ix_list (pe_fld (pv 0) rfl) (pv 1) (fun _ _ => rfl)))
      (pss_one (ps_for (passes_of rfl) rfl (pi_tup (pv 2)) (pg_name (i := 6) sc_Store_take_bare.nd rfl (Or.inl rfl))
        (pss_cons (ps_set (i := 7) sc_Store_take_bare.nd rfl (Or.inl rfl) (pe_or (pe_cmp (pc_din hu (pv 6) (pv 4))) (pe_one (pe_and (pe_cmpR op_eq (pe_fld (pv 0) rfl) pe_str (nomark _)) (pe_one (pe_cmp (pc_din hu (pv 6) (pv 3))))))))
        (pss_one (ps_if (PW.pt (pw_and (pt_truth (pv 5) (fun _ => rfl)) (pw_and1 (pt_not (pt_val (pv 7))))))
          (pss_cons (ps_set (i := 8) sc_Store_take_bare.nd rfl (Or.inl rfl) (pe_bm PySem.F.plainAttrs_list PySem.F.slot_list_pop PySem.F.type_list_pop mt_popAt (pv 5) (pa_cons pe_int pa_nil)))
          (pss_cons (ps_asg (pe_dget hu (pe_fld (pv 0) rfl) (pe_tup (pa_cons (pv 1) (pa_cons (pv 8) pa_nil))) (fun _ _ => rfl)) (pg_tup rfl (pgs_cons (pg_name (i := 9) sc_Store_take_bare.nd rfl (Or.inl rfl)) (pgs_cons (pg_name (i := 10) sc_Store_take_bare.nd rfl (Or.inl rfl)) pgs_nil))))
          (pss_one (ps_dput hu (pv 4) (pv 6) (pe_tup (pa_cons (pv 1) (pa_cons (pv 8) (pa_cons (pv 9) (pa_cons (pv 10) pa_nil))))) rfl))))
          pss_nil)))))), ?_⟩
    have nar : a ≠ rb := ne_of ob hrow (fun z => by cases z)
    have nat : a ≠ tk := by
      obtain ⟨kv2, h2, _⟩ := htk.go
      exact ne_of ob h2 (fun z => by cases z)
    have nbt : rb ≠ tk := by
      obtain ⟨kv2, h2, _⟩ := htk.go
      exact ne_of hrow h2 (fun z => by cases z)
    have nft : ∀ b xs, H b = some (.tup xs) → ¬ (b = rb ∨ b = tk) := fun b xs h z => by
      rcases z with z | z
      · rw [z, hrow] at h
        cases h
      · rw [z] at h
        exact htk.notup xs h
    have nlr : lv ≠ rb := by
      obtain ⟨kv2, h2, _⟩ := hlv.go
      exact ne_of h2 hrow (fun z => by cases z)
    have nkr : q.k ≠ rb := by
      obtain ⟨kv2, h2, _⟩ := hkn.go
      exact ne_of h2 hrow (fun z => by cases z)
    have nkt : q.k ≠ tk := by
      obtain ⟨kv2, h2, _⟩ := hkn.go
      obtain ⟨kv3, h3, _⟩ := htk.go
      exact ne_of h2 h3 (fun z => by cases z)
    have ktO : ∀ G, Kx (fun b => b = rb ∨ b = tk) H G → Kt H G := fun G F b xs h => F b _ (nft b xs h) h
    refine ⟨.ref a, rfl, a, C, q.dx, _, _, rfl, ob, T.cl, T.rows, st_rows, iV d, rfl, q.r, _, _, .ref rb, rfl, rfl, SqL.of hrw, atI_nat (by rw [List.getElem?_map, hrb] <;> rfl), ?_⟩
    refine ⟨.ref fr, rfl, fr, rfl, ⟨_, SqT.of hfr⟩, ?_⟩
    have shw : decide (V.str (wayS q.way) = V.str (Str.ofString "free")) = decide (q.way = .free) := way_is q.way .free
    refine for_tup (xs := fresh.map iV) (fun i σ G => ∃ y6 y7 y8 y9 y10, σ = [some (.ref a), some (iV d), some (.ref fr), some (.ref lv), some (.ref tk), some (.ref rb), y6, y7, y8, y9, y10] ∧ G rb = some (.lst (((fresh.take i).foldl (bare1 kn d (shutB q.way kn cs)) (row, t)).1.map iV)) ∧ TkAt G tk ((fresh.take i).foldl (bare1 kn d (shutB q.way kn cs)) (row, t)).2 (n + i) ∧ Kx (fun b => b = rb ∨ b = tk) H G)
      ⟨none, none, none, none, none, rfl, hrow, htk, Kx.refl⟩ (fun i σ G _ w => by
        obtain ⟨_, _, _, _, _, _, _, _, kx⟩ := w
        exact SqT.of (kx _ _ (nft _ _ hfr) hfr)) (fun i x σ G hx w => ?_) (fun σ G w => ?_)
    · obtain ⟨y6, y7, y8, y9, y10, rfl, gr, gt, kx⟩ := w
      rw [List.getElem?_map] at hx
      obtain ⟨c, hc, rfl⟩ := Option.map_eq_some_iff.mp hx
      have hcm := List.mem_of_getElem? hc
      have il : i < fresh.length := (List.getElem?_eq_some_iff.mp hc).1
      have step := foldTake (f := bare1 kn d (shutB q.way kn cs)) (z := (row, t)) hc
      have sub := bare_subs kn d (shutB q.way kn cs) (fresh.take i) (row, t)
      generalize hS : (fresh.take i).foldl (bare1 kn d (shutB q.way kn cs)) (row, t) = S at gr gt step sub
      have obG : G a = some (.ins C q.dx (stF q)) := kx _ _ (fun z => z.elim nar nat) ob
      have lvG : LvAt G lv (liveItems kn cs fresh) := hlv.mv (ktO _ kx) fun o h => kx _ _ (fun z => z.elim nlr nlt) h
      have knG : KnAt G q.k kn m := hkn.mv (ktO _ kx) fun o h => kx _ _ (fun z => z.elim nkr nkt) h
      obtain ⟨o, dg, tv⟩ := gt.get c
      obtain ⟨o2, dg2, lv2⟩ := lvG.has c
      rw [live_mem hcm] at lv2
      refine ⟨iV c, rfl, .ref tk, rfl, tk, o, rfl, dg, _, rfl, ?_⟩
      rw [tv.some_iff]
      refine ite2 (fun c1 => ?_) (fun c1 => ?_)
      · have hsh : ((S.2 c).isSome || shutB q.way kn cs c) = true := by rw [c1] <;> rfl
        have st : bare1 kn d (shutB q.way kn cs) S c = S := by
          unfold bare1
          cases S.1 with
          | nil => rfl
          | cons p r => simp only [hsh, if_true]
        refine ⟨.ref rb, rfl, !(S.1.map iV).isEmpty, .inl ⟨_, SqL.of gr, rfl⟩, ?_⟩
        refine ite2 (fun _ => ⟨_, rfl, true, rfl, iteF ?_⟩) (fun _ => iteF ?_)
        all_goals exact ⟨_, _, _, _, _, rfl, by rw [step, st]; exact gr, by rw [step, st]; exact gt.le (by omega), kx⟩
      · rw [Bool.not_eq_true] at c1
        refine ⟨.ref a, rfl, a, C, q.dx, _, _, rfl, obG, T.cl, T.way, st_way, rfl, _, rfl, ?_⟩
        rw [shw]
        refine ite2 (fun c2 => ?_) (fun c2 => ?_)
        · refine ⟨iV c, rfl, .ref lv, rfl, lv, o2, rfl, dg2, ?_⟩
          rw [lv2]
          cases l : liveAt kn cs c with
          | true =>
            have hsh : ((S.2 c).isSome || shutB q.way kn cs c) = true := by
              unfold shutB
              rw [c1, c2, l]
              rfl
            have st : bare1 kn d (shutB q.way kn cs) S c = S := by
              unfold bare1
              cases S.1 with
              | nil => rfl
              | cons p r => simp only [hsh, if_true]
            refine ⟨.ref rb, rfl, !(S.1.map iV).isEmpty, .inl ⟨_, SqL.of gr, rfl⟩, ?_⟩
            refine ite2 (fun _ => ⟨_, rfl, true, rfl, iteF ?_⟩) (fun _ => iteF ?_)
            all_goals exact ⟨_, _, _, _, _, rfl, by rw [step, st]; exact gr, by rw [step, st]; exact gt.le (by omega), kx⟩
          | false =>
            have hop : ((S.2 c).isSome || shutB q.way kn cs c) = false := by
              unfold shutB
              rw [c1, c2, l]
              rfl
            refine ⟨.ref rb, rfl, !(S.1.map iV).isEmpty, .inl ⟨_, SqL.of gr, rfl⟩, ?_⟩
            cases e1 : S.1 with
            | nil =>
              have st : bare1 kn d (shutB q.way kn cs) S c = S := by
                unfold bare1
                rw [e1]
              exact iteF (iteF ⟨_, _, _, _, _, rfl, by rw [step, st]; exact gr, by rw [step, st]; exact gt.le (by omega), kx⟩)
            | cons p r =>
              have st : bare1 kn d (shutB q.way kn cs) S c = (r, tkSet S.2 c (d, p, (kn d p).getD (0, 0))) := by
                unfold bare1
                rw [e1]
                simp only [hop, if_false, Bool.false_eq_true]
              have hp : (kn d p).isSome = true := hks p (sub p (by rw [e1]; exact List.mem_cons_self ..))
              obtain ⟨x, hx⟩ := Option.isSome_iff_exists.mp hp
              rw [e1] at gr
              rw [hx] at st
              refine iteT ⟨_, rfl, false, rfl, iteT ⟨.ref rb, rfl, .inl ⟨rfl, _, SqL.of gr⟩, rb, _, 0, 0, iV p, rfl, rfl, gr, by decide, by decide, ?_, rfl, ?_⟩⟩
              · unfold seqIndex?
                rw [List.length_map]
                simp
              have kp : Kx (· = rb) G (upd G rb (.lst (r.map iV))) := Kx.put rfl
              have ktp := kp.kt fun b e xs => e ▸ fun z => by rw [gr] at z; cases z
              have gt2 : TkAt (upd G rb (.lst (r.map iV))) tk S.2 (n + i) := gt.mv ktp fun o h => kp _ _ nbt.symm h
              have kn2 : KnAt (upd G rb (.lst (r.map iV))) q.k kn m := knG.mv ktp fun o h => kp _ _ nkr h
              have ob2 := kp _ _ nar obG
              have kx2 : Kx (fun b => b = rb ∨ b = tk) H (upd G rb (.lst (r.map iV))) := kx.trans (kp.wk fun b e => .inl e)
              have gr2 : (upd G rb (.lst (r.map iV))) rb = some (.lst (r.map iV)) := upd_same
              show (tSeq _ _ _ _ _ : Prop)
              have er : (List.eraseIdx ((p :: r).map iV) 0) = r.map iV := rfl
              rw [er]
              generalize upd G rb (.lst (r.map iV)) = G2 at gt2 kn2 ob2 kx2 gr2 ⊢
              refine ⟨.ref a, rfl, a, C, q.dx, _, _, rfl, ob2, T.cl, T.known, st_known, iV d, rfl, iV p, rfl, by show 2 ≤ sizeLine; decide, fun b3 nb3 => ?_⟩
              have e3 := Ex.new (o := HO.tup [iV d, iV p]) nb3
              obtain ⟨o3, dg3, kv3⟩ := (kn2.ex e3).get (b := b3) upd_same
              rw [hx] at kv3
              cases o3 with
              | none => exact kv3.elim
              | some v3 =>
                obtain ⟨t3, rfl, ht3⟩ := tvPair kv3
                refine ⟨q.k, .ref t3, rfl, dg3, t3, _, rfl, SqT.of ht3, rfl, _, _, rfl, _, _, rfl, rfl, ?_⟩
                refine ⟨iV d, rfl, iV p, rfl, iV x.1, rfl, iV x.2, rfl, by show 4 ≤ sizeLine; decide, fun b4 nb4 => ?_⟩
                have e4 := Ex.new (o := HO.tup [iV d, iV p, iV x.1, iV x.2]) nb4
                have e34 := e3.trans e4
                obtain ⟨H', dp, tk', kp'⟩ := (gt2.ex e34).put (c := c) (x := (d, p, x)) (v := .ref b4) (ofHeld upd_same) (Nat.lt_of_le_of_lt (Nat.add_le_add hn (Nat.le_trans (Nat.le_of_lt il) hf)) (by decide))
                refine ⟨.ref tk, rfl, iV c, rfl, tk, H', rfl, dp, ?_⟩
                refine ⟨_, _, _, _, _, rfl, ?_, ?_, (kx2.trans (Kx.ex e34)).trans (kp'.wk fun b e => .inr e)⟩
                · rw [step, st]
                  exact kp' _ _ nbt (e34 _ _ gr2)
                · rw [step, st]
                  exact tk'
        · rw [Bool.not_eq_true] at c2
          have hop : ((S.2 c).isSome || shutB q.way kn cs c) = false := by
            unfold shutB
            rw [c1, c2]
            rfl
          refine ⟨.ref rb, rfl, !(S.1.map iV).isEmpty, .inl ⟨_, SqL.of gr, rfl⟩, ?_⟩
          cases e1 : S.1 with
          | nil =>
            have st : bare1 kn d (shutB q.way kn cs) S c = S := by
              unfold bare1
              rw [e1]
            exact iteF (iteF ⟨_, _, _, _, _, rfl, by rw [step, st]; exact gr, by rw [step, st]; exact gt.le (by omega), kx⟩)
          | cons p r =>
            have st : bare1 kn d (shutB q.way kn cs) S c = (r, tkSet S.2 c (d, p, (kn d p).getD (0, 0))) := by
              unfold bare1
              rw [e1]
              simp only [hop, if_false, Bool.false_eq_true]
            have hp : (kn d p).isSome = true := hks p (sub p (by rw [e1]; exact List.mem_cons_self ..))
            obtain ⟨x, hx⟩ := Option.isSome_iff_exists.mp hp
            rw [e1] at gr
            rw [hx] at st
            refine iteT ⟨_, rfl, false, rfl, iteT ⟨.ref rb, rfl, .inl ⟨rfl, _, SqL.of gr⟩, rb, _, 0, 0, iV p, rfl, rfl, gr, by decide, by decide, ?_, rfl, ?_⟩⟩
            · unfold seqIndex?
              rw [List.length_map]
              simp
            have kp : Kx (· = rb) G (upd G rb (.lst (r.map iV))) := Kx.put rfl
            have ktp := kp.kt fun b e xs => e ▸ fun z => by rw [gr] at z; cases z
            have gt2 : TkAt (upd G rb (.lst (r.map iV))) tk S.2 (n + i) := gt.mv ktp fun o h => kp _ _ nbt.symm h
            have kn2 : KnAt (upd G rb (.lst (r.map iV))) q.k kn m := knG.mv ktp fun o h => kp _ _ nkr h
            have ob2 := kp _ _ nar obG
            have kx2 : Kx (fun b => b = rb ∨ b = tk) H (upd G rb (.lst (r.map iV))) := kx.trans (kp.wk fun b e => .inl e)
            have gr2 : (upd G rb (.lst (r.map iV))) rb = some (.lst (r.map iV)) := upd_same
            show (tSeq _ _ _ _ _ : Prop)
            have er : (List.eraseIdx ((p :: r).map iV) 0) = r.map iV := rfl
            rw [er]
            generalize upd G rb (.lst (r.map iV)) = G2 at gt2 kn2 ob2 kx2 gr2 ⊢
            refine ⟨.ref a, rfl, a, C, q.dx, _, _, rfl, ob2, T.cl, T.known, st_known, iV d, rfl, iV p, rfl, by show 2 ≤ sizeLine; decide, fun b3 nb3 => ?_⟩
            have e3 := Ex.new (o := HO.tup [iV d, iV p]) nb3
            obtain ⟨o3, dg3, kv3⟩ := (kn2.ex e3).get (b := b3) upd_same
            rw [hx] at kv3
            cases o3 with
            | none => exact kv3.elim
            | some v3 =>
              obtain ⟨t3, rfl, ht3⟩ := tvPair kv3
              refine ⟨q.k, .ref t3, rfl, dg3, t3, _, rfl, SqT.of ht3, rfl, _, _, rfl, _, _, rfl, rfl, ?_⟩
              refine ⟨iV d, rfl, iV p, rfl, iV x.1, rfl, iV x.2, rfl, by show 4 ≤ sizeLine; decide, fun b4 nb4 => ?_⟩
              have e4 := Ex.new (o := HO.tup [iV d, iV p, iV x.1, iV x.2]) nb4
              have e34 := e3.trans e4
              obtain ⟨H', dp, tk', kp'⟩ := (gt2.ex e34).put (c := c) (x := (d, p, x)) (v := .ref b4) (ofHeld upd_same) (Nat.lt_of_le_of_lt (Nat.add_le_add hn (Nat.le_trans (Nat.le_of_lt il) hf)) (by decide))
              refine ⟨.ref tk, rfl, iV c, rfl, tk, H', rfl, dp, ?_⟩
              refine ⟨_, _, _, _, _, rfl, ?_, ?_, (kx2.trans (Kx.ex e34)).trans (kp'.wk fun b e => .inr e)⟩
              · rw [step, st]
                exact kp' _ _ nbt (e34 _ _ gr2)
              · rw [step, st]
                exact tk'
    · obtain ⟨y6, y7, y8, y9, y10, rfl, gr, gt, kx⟩ := w
      rw [List.length_map, List.take_length] at gr gt
      exact k _ gr gt kx
end
end K04

set_option maxHeartbeats 4000000
namespace K04
open PySem PySem.Spec PyProof.Rows L2 Hd Evl
section
variable {CX : CXT} {P : Program} {w : World} {K : PySem.W.Frag} {mg : Str → Option Value} {base : Heap} {C : Addr}
/-! ### the cells of a set are sealed anew -/
theorem bare_len (k : KnownT) (d : Nat) (sh : Nat → Bool) (s : List Nat × TakenT) (c : Nat) : (bare1 k d sh s c).1.length ≤ s.1.length := by
  unfold bare1
  cases e : s.1 with
  | nil =>
    show s.1.length ≤ _
    rw [e]
    exact Nat.le_refl _
  | cons x r =>
    by_cases z : ((s.2 c).isSome || sh c) = true
    · simp only [z, if_true]
      rw [e]
      exact Nat.le_refl _
    · simp only [z, if_false, Bool.false_eq_true]
      exact Nat.le_succ _
theorem bare_lens (k : KnownT) (d : Nat) (sh : Nat → Bool) : ∀ (l : List Nat) (s : List Nat × TakenT), (l.foldl (bare1 k d sh) s).1.length ≤ s.1.length
  | [], _ => Nat.le_refl _
  | c :: l, s => Nat.le_trans (bare_lens k d sh l _) (bare_len k d sh s c)
theorem items_len {k : KnownT} {cs : CellsT} {fresh : List Nat} : (liveItems k cs fresh).length ≤ fresh.length := by
  unfold liveItems
  rw [List.length_map]
  exact List.length_filter_le _ _
theorem turn_len {w : Way} {k : KnownT} {cs : CellsT} {fresh : List Nat} {s : List (List Nat) × TakenT} {d B : Nat} (h : ∀ r ∈ s.1, r.length ≤ B) : ∀ r ∈ (turn1 w k cs fresh s d).1, r.length ≤ B + fresh.length := by
  intro r hr
  have hr' : r ∈ s.1.set d (takeD w k cs fresh d (s.1.getD d [], s.2)).1 := hr
  rcases List.mem_or_eq_of_mem_set hr' with z | z
  · exact Nat.le_trans (h r z) (Nat.le_add_right _ _)
  · rw [z]
    unfold takeD
    refine Nat.le_trans (bare_lens _ _ _ _ _) (Nat.le_trans (again_rows _ _ _) (Nat.add_le_add ?_ items_len))
    show (s.1.getD d []).length ≤ B
    rw [List.getD_eq_getElem?_getD]
    cases e : s.1[d]? with
    | none => exact Nat.zero_le _
    | some x => exact h x (List.mem_of_getElem? e)
theorem turns_len {w : Way} {k : KnownT} {cs : CellsT} {fresh : List Nat} : ∀ (l : List Nat) (s : List (List Nat) × TakenT) (B : Nat), (∀ r ∈ s.1, r.length ≤ B) → ∀ r ∈ (l.foldl (turn1 w k cs fresh) s).1, r.length ≤ B + fresh.length * l.length
  | [], s, B, h => fun r hr => by simpa using h r hr
  | d :: l, s, B, h => fun r hr => by
    have := turns_len l (turn1 w k cs fresh s d) (B + fresh.length) (turn_len h) r hr
    rw [List.length_cons, Nat.mul_succ]
    omega
theorem turn_rows {w : Way} {k : KnownT} {cs : CellsT} {fresh : List Nat} : ∀ (l : List Nat) (s : List (List Nat) × TakenT), (l.foldl (turn1 w k cs fresh) s).1.length = s.1.length
  | [], _ => rfl
  | d :: l, s => by
    rw [List.foldl_cons, turn_rows l]
    exact List.length_set
theorem tvSet {α : Type} {H : Hp} {f : α → PyData} : ∀ {vs : List V} {L : List α} (c : Nat) {v : V} {x : α}, TvAll H vs (L.map f) → Tv H v (f x) → TvAll H (vs.set c v) ((L.set c x).map f)
  | [], [], _, _, _, _, _ => .nil
  | _ :: _, _ :: _, 0, _, _, .cons h t, hv => .cons hv t
  | _ :: _, _ :: _, c + 1, _, _, .cons h t, hv => .cons h (tvSet c t hv)
  | [], _ :: _, _, _, _, h, _ => by cases h
  | _ :: _, [], _, _, _, h, _ => by cases h
theorem nodup_take {l : List Nat} {i c : Nat} (nd : l.Nodup) (h : l[i]? = some c) : ¬ c ∈ l.take i := fun z => by
  have := (List.take_sublist (i + 1) l).nodup nd
  rw [takeSnoc h] at this
  exact (List.nodup_append.mp this).2.2 c z c (List.mem_singleton.mpr rfl) rfl
theorem Kz.thenK {K : PySem.W.Frag} {F : Addr → Prop} {H H1 H2 : Hp} (a : Kz K F H H1) (b : Kx (fun b => F b ∨ H1 b = none) H1 H2) : Kz K F H H2 := by
  have go : ∀ b o, ¬ F b → H1 b = some o → H2 b = some o := fun c o f h => b c o (fun z => by
    rcases z with z | z
    · exact f z
    · rw [z] at h
      cases h) h
  refine ⟨fun c o f h t => go c o f (a.e c o f h t), fun c o f s h => go c o f (a.s c o f s h), fun P f h => ?_⟩
  obtain ⟨ps, h1, h2⟩ := a.g P f h
  exact ⟨ps, go _ _ f h1, h2⟩
theorem kv_some {H : Hp} {kvs : List (Key × V)} {items : List (Nat × Held)} (p : Paired (fun kv x => kv.1 = (.inl (x.1 : Int) : Key) ∧ Tv H kv.2 (heldP x.2)) kvs items) (c : Nat) : (valV kvs (.inl (c : Int) : Key)).isSome = decide (c ∈ items.map (·.1)) := by
  rw [← valV_any]
  induction p with
  | nil => rfl
  | @cons x y xs ys r t ih =>
    rw [List.any_cons, ih, r.1, List.map_cons, Bool.eq_iff_iff]
    simp only [Bool.or_eq_true, decide_eq_true_eq, List.mem_cons]
    constructor
    · rintro (z | z)
      · injection z with z
        exact .inl (Int.ofNat.inj z.symm)
      · exact .inr z
    · rintro (z | z)
      · exact .inl (by rw [z])
      · exact .inr z
theorem item_cells {k : KnownT} {cs : CellsT} {fresh : List Nat} : (liveItems k cs fresh).map (·.1) = fresh.filter (liveAt k cs) := by
  unfold liveItems
  rw [List.map_map]
  exact List.map_id' _
structure SealP (K : PySem.W.Frag) (C Pt : Addr) (vs : List V) (H : Hp) (Q : VK) : Prop where
  go : ∃ (a : Addr) (q : SA) (s : StT) (n m : Nat) (dr : Addr) (ds : List Nat), vs = [.ref a, .ref dr] ∧ StR C a q s n H ∧ Small q s ∧ Good q.pages m s ∧ H dr = some (.tup (ds.map iV)) ∧ ds.length ≤ 100 ∧ ds.Nodup ∧ (∀ c ∈ ds, c < s.cells.length) ∧ m ≤ 50 ∧ (∀ r ∈ s.rows, r.length ≤ 50000) ∧ n ≤ 10000 ∧ GxR.TabG H Pt ∧
  ∀ t H', StR C a q (s.seal q.way ds) n H' → H' t = some (.tup ((s.fresh q.way ds).map iV)) → Kz K (Foot a q) H H' → Q (.ref t) H'
def spSeal (K : PySem.W.Frag) (C Pt : Addr) : Sp := fun vs H Q _ => SealP K C Pt vs H Q
structure Meths (P : Program) (w : World) (K : PySem.W.Frag) (mg : Str → Option Value) (base : Heap) (C Pt : Addr) (fL fO fS fA fB : Addr) (dL dO dS dA dB : FuncData) : Prop where
  L : MeLive P w K mg base C fL dL
  O : Me P w K mg base CX0 3 C "sealed_of" ["self", "drawn_cells"] (spOf K C Pt) fO dO
  S : Me P w K mg base CX0 1 C "sequence" ["self"] (spSeq C) fS dS
  A : Me P w K mg base CX0 1 C "take_again" ["self", "drawer", "live", "taken"] (spAgain C) fA dA
  B : Me P w K mg base CX0 1 C "take_bare" ["self", "drawer", "fresh", "live", "taken"] (spBare C) fB dB
theorem ok_seal {f Pt fL fO fS fA fB : Addr} {fd dL dO dS dA dB : FuncData} (F : MeP K "seal" "Store.seal" s_Store_seal f fd) (T : StC K mg C) (M : Meths P w K mg base C Pt fL fO fS fA fB dL dO dS dA dB) : FnOk P w K mg base CX 4 f fd ["self", "drawn_cells"] (spSeal K C Pt) := by
  refine F.ok (CX := CX) sc_Store_seal (fun vs H Q E h => ?_) (fun cdv A outer s H vs Q E hr h => ?_)
  · obtain ⟨a, q, st, n, m, dr, ds, rfl, _⟩ := h
    rfl
  · obtain ⟨a, q, st, n, m, dr, ds, rfl, R, S, G0, hd, hl, nd, hlt, hm, hrB, hn, hT, k⟩ := h
    have hu := hu_of hr
    have hr1 : Room 1 _ := hr.mono (by decide)
    refine ⟨_, (pss_cons (ps_set (i := 2) sc_Store_seal.nd rfl (Or.inl rfl) (pe_meth (pv 0) T.cl M.O.m M.O.G hr M.O.b .nil pass0 (pa_cons (pv 1) pa_nil)))
      (pss_cons (ps_setDc (i := 3) (own := [("cell", 6)]) (g := gName 6) (by rfl) sc_Store_seal.nd rfl rfl (sw_trueD rfl rfl (by rfl) (by decide +kernel)) (pi_tup (pv 2)) (blkOk_by (own := [("cell", 6)]) (N := n_Store_seal) (sc := defScope s_Store_seal) (by decide +kernel)) (fun _ _ _ _ _ => pg_name (i := 6) sc_Store_seal.nd rfl (Or.inl rfl))
          (fun _ _ _ _ _ => pts_one (pt_val (pe_meth (pv 0) T.cl M.L.m M.L.G hr1 M.L.b .nil pass0 (pa_cons (pv 6) pa_nil)))) (fun _ _ _ _ _ => pv 6) (fun _ _ _ _ _ => pe_ix (ix_list : IxR _ (rIxL K)) (pe_fld (pv 0) rfl : PE _ _ (tFld K (tVar 0) "cells")) (pv 6) (fun _ _ => rfl)))
      (pss_cons (ps_set (i := 4) sc_Store_seal.nd rfl (Or.inl rfl) pe_dnewK)
      (pss_cons (ps_for (passes_of rfl) rfl (pi_list (pe_meth0 (pv 0) T.cl M.S.m M.S.G hr1 M.S.b .nil pass0)) (pg_name (i := 5) sc_Store_seal.nd rfl (Or.inl rfl))
        (pss_cons (ps_expr (pe_meth (pv 0) T.cl M.A.m M.A.G hr1 M.A.b .nil pass0 (pa_cons (pv 5) (pa_cons (pv 3) (pa_cons (pv 4) pa_nil)))))
        (pss_one (ps_expr (pe_meth (pv 0) T.cl M.B.m M.B.G hr1 M.B.b .nil pass0 (pa_cons (pv 5) (pa_cons (pv 2) (pa_cons (pv 3) (pa_cons (pv 4) pa_nil)))))))))
      (pss_cons (ps_for (passes_of rfl) rfl (pi_tup (pv 2)) (pg_name (i := 6) sc_Store_seal.nd rfl (Or.inl rfl))
        (pss_one (ps_asg (pe_dget1 hu (pv 4) (pv 6) ⟨rfl, rfl, rfl, rfl⟩) (pg_sub (pe_fld (pv 0) rfl) (pv 6) set_list))))
      (pss_one (ps_ret (pv 2)))))))), ?_⟩
    refine ⟨.ref a, rfl, a, q.dx, _, rfl, R.ob, rfl, .ref dr, rfl, a, q, st, n, dr, ds, rfl, R, hd, hl, hlt, (by rw [G0.len]; omega), (fun r hr => Nat.le_trans (hrB r hr) (by decide)), hT, fun t1 H1 ht1 k1 => ?_⟩
    have R1 := R.ks k1
    generalize hfr : st.fresh q.way ds = fresh at ht1 k
    have ndf : fresh.Nodup := hfr ▸ fresh_sub.nodup nd
    have fl : fresh.length ≤ 100 := Nat.le_trans (hfr ▸ fresh_sub.length_le) hl
    have fb : ∀ c ∈ fresh, c < st.cells.length := fun c hc => hlt c (fresh_sub.subset (hfr ▸ hc))
    obtain ⟨vs, hcs, tv⟩ := R1.cs
    have hvl : vs.length = st.cells.length := by rw [tv.len, List.length_map]
    -- live
    refine ⟨.ref t1, rfl, t1, rfl, ⟨_, SqT.of ht1⟩, fun D nD => ?_⟩
    refine dc_tup (xs := fresh.map iV) (fun i G => ∃ kvs, G D = some (.dK kvs) ∧ Paired (fun kv x => kv.1 = (.inl (x.1 : Int) : Key) ∧ Tv G kv.2 (heldP x.2)) kvs (liveItems st.known st.cells (fresh.take i)) ∧ Kx (· = D) H1 G) ⟨[], upd_same, .nil, Kx.put rfl⟩ (fun i G _ w => by
        obtain ⟨_, _, _, kx⟩ := w
        exact SqT.of ((kx.toEx fun b e => e ▸ nD) _ _ ht1)) (fun i x G hx w => ?_) (fun G w => ?_)
    · obtain ⟨kvs, gD, pr, kx⟩ := w
      rw [List.getElem?_map] at hx
      obtain ⟨c, hc, rfl⟩ := Option.map_eq_some_iff.mp hx
      have hcm := List.mem_of_getElem? hc
      have il : i < fresh.length := (List.getElem?_eq_some_iff.mp hc).1
      have eG := kx.toEx fun b e => e ▸ nD
      have RG := R1.ex eG
      refine ⟨rfl, .ref a, rfl, a, q.dx, _, rfl, RG.ob, rfl, iV c, rfl, a, q, st.cells, st.known, n, c, rfl, RG.lk, fb c hcm, fun H3 e3 => ⟨_, rfl, ?_⟩⟩
      have e13 := eG.trans e3
      have tk : liveItems st.known st.cells (fresh.take (i + 1)) = liveItems st.known st.cells (fresh.take i) ++ (if liveAt st.known st.cells c = true then [(c, (st.cells.getD c none).getD (0, 0, 0, 0))] else []) := by
        unfold liveItems
        rw [takeSnoc hc, List.filter_append, List.map_append, List.filter_cons]
        split <;> rfl
      have pr3 : Paired (fun kv x => kv.1 = (.inl (x.1 : Int) : Key) ∧ Tv H3 kv.2 (heldP x.2)) kvs (liveItems st.known st.cells (fresh.take i)) := paired_im2 pr fun x _ y h => ⟨h.1, h.2.mv (Kt.ex e3)⟩
      have kx3 : Kx (· = D) H1 H3 := kx.trans (Kx.ex e3)
      cases lv : liveAt st.known st.cells c with
      | false =>
        rw [lv] at tk
        refine iteF ⟨kvs, e3 _ _ gD, ?_, kx3⟩
        rw [tk, if_neg (by decide), List.append_nil]
        exact pr3
      | true =>
        rw [lv, if_pos rfl] at tk
        have R3 := R1.ex e13
        obtain ⟨o, ho⟩ : ∃ o, st.cells[c]? = some o := ⟨_, List.getElem?_eq_getElem (fb c hcm)⟩
        obtain ⟨v, hv, tvv⟩ := tvAtD tv ho
        have eD : st.cells.getD c none = o := by rw [List.getD_eq_getElem?_getD, ho]; rfl
        cases o with
        | none =>
          unfold liveAt at lv
          rw [eD] at lv
          cases lv
        | some h =>
          rw [eD] at tk
          have vN : valV kvs (.inl (c : Int) : Key) = none := by
            have := kv_some pr c
            rw [item_cells, decide_eq_false] at this
            · simpa using this
            · intro z
              exact nodup_take ndf hc (List.mem_filter.mp z).1
          refine iteT ⟨iV c, rfl, .ref a, rfl, a, C, q.dx, _, _, rfl, R3.ob, T.cl, T.cells, st_cells, iV c, rfl, q.c, vs, _, v, rfl, rfl, SqL.of (e13 _ _ hcs), atI_nat hv, kvs, .inl (c : Int), rfl, e3 _ _ gD, ?_, ?_⟩
          · rw [pr.length]
            refine Nat.lt_of_le_of_lt items_len (Nat.lt_of_le_of_lt (List.length_take_le' _ _) (Nat.lt_of_le_of_lt fl (by decide)))
          · have kp : Kx (· = D) H3 (upd H3 D (.dK (putK kvs (.inl (c : Int)) v))) := Kx.put rfl
            have ktp := kp.kt fun b e xs => e ▸ fun z => by rw [e3 _ _ gD] at z; cases z
            refine ⟨_, upd_same, ?_, kx3.trans kp⟩
            rw [putK_new _ vN, tk]
            exact paired_app (paired_im2 pr3 fun x _ y h => ⟨h.1, h.2.mv (by rw [← putK_new _ vN]; exact ktp)⟩) (.cons ⟨rfl, (tvv.mv (Kt.ex e13)).mv (by rw [← putK_new _ vN]; exact ktp)⟩ .nil)
    · obtain ⟨kvs, gD, pr, kx⟩ := w
      rw [show fresh.take (fresh.map iV).length = fresh by rw [List.length_map, List.take_length]] at pr
      have eG := kx.toEx fun b e => e ▸ nD
      have lvG : LvAt G D (liveItems st.known st.cells fresh) := ⟨kvs, gD, pr⟩
      clear gD pr
      intro tk ntk
      have e2 := Ex.new (o := HO.dK []) ntk
      have e12 : Ex H1 _ := eG.trans e2
      have nDt : D ≠ tk := by
        obtain ⟨kv2, h2, _⟩ := lvG.go
        exact ne_of_none h2 ntk
      have lv2 := lvG.ex e2
      have tk2 : TkAt (upd G tk (.dK [])) tk tk0 0 := ⟨[], upd_same, Nat.le_refl _, fun _ => trivial⟩
      have n1tk : H1 tk = none := Ex.none eG ntk
      show (tSeq _ _ _ _ _ : Prop)
      generalize upd G tk (.dK []) = G2 at e2 e12 lv2 tk2 ⊢
      have R2 := R1.ex e12
      refine ⟨.ref a, rfl, a, q.dx, _, rfl, R2.ob, rfl, a, q, st.rows.length, rfl, R2.ob, R2.rw, R2.ro.length, (by rw [G0.len]; omega), fun D2 H3 nD2 hD2 e3 => ?_⟩
      have e13 := e12.trans e3
      have R3 := R1.ex e13
      have lv3 := lv2.ex e3
      have tk3 := tk2.ex e3
      have ht3 := e13 _ _ ht1
      have notF : ∀ b, b ∈ q.rs ∨ b = tk → Foot a q b ∨ H1 b = none := fun b z => z.elim (fun z => .inl (.inr (.inr (.inr (.inr z))))) fun z => .inr (z ▸ n1tk)
      have nrs : q.rs.Nodup := (List.nodup_cons.mp (List.nodup_cons.mp R.nd).2).2
      have neT : ∀ b o, (∀ kvs, o ≠ HO.dK kvs) → H3 b = some o → b ≠ tk := fun b o h1 h2 e => by
        obtain ⟨kv2, h, _⟩ := tk3.go
        rw [e, h] at h2
        exact h1 kv2 (Option.some.inj h2).symm
      have nD2s : ¬ (D2 ∈ q.rs ∨ D2 = tk) := fun z => by
        rcases z with z | z
        · obtain ⟨row, _, h⟩ := paired_mem (R1.ex e12).ro z
          rw [nD2] at h
          cases h
        · exact neT D2 _ (fun _ z => by cases z) hD2 z
      have keep : ∀ b o, (∀ b' ∈ q.rs, b ≠ b') → (∀ kvs, o ≠ HO.dK kvs) → H3 b = some o → ∀ G, Kx (fun b => b ∈ q.rs ∨ b = tk) H3 G → G b = some o := fun b o h1 h2 h3 G kx => kx b o (fun z => z.elim (fun z => h1 b z rfl) (neT b o h2 h3)) h3
      have ktK : ∀ G, Kx (fun b => b ∈ q.rs ∨ b = tk) H3 G → Kt H3 G := fun G kx => kx.kt fun b z xs h => by
        rcases z with z | z
        · obtain ⟨row, _, g⟩ := paired_mem R3.ro z
          rw [h] at g
          cases g
        · rw [z] at h
          exact tk3.notup xs h
      have hm2 : st.rows.length ≤ 51 := by rw [G0.len]; omega
      have TT : ∀ i, TurnsOk st.known st.cells fresh m ([] ++ (orderOf q.way st.rows.length).take i) (((orderOf q.way st.rows.length).take i).foldl (turn1 q.way st.known st.cells fresh) (st.rows, tk0)) := fun i =>
        (turns_fold (w := q.way) (rows := st.rows) ((orderOf q.way st.rows.length).take i) (st.rows, tk0) [] (fun d hd => by have := mem_order.mp (List.mem_of_mem_take hd); rw [G0.len] at this; omega) ⟨G0.len, G0.rk, (fun c h e => nomatch e), (fun d p x _ _ h => nomatch h.1)⟩ (fun d p x _ hp => .inl hp)).1
      have ordLen : (orderOf q.way st.rows.length).length = st.rows.length := by
        unfold orderOf
        split <;> simp
      refine ⟨D2, rfl, ⟨_, SqL.of hD2⟩, ?_⟩
      refine for_list (xs := (orderOf q.way st.rows.length).map iV) (fun i σ G => ∃ y5, σ = [some (.ref a), some (.ref dr), some (.ref t1), some (.ref D), some (.ref tk), y5, none] ∧ Paired (fun b row => G b = some (.lst (row.map iV))) q.rs (((orderOf q.way st.rows.length).take i).foldl (turn1 q.way st.known st.cells fresh) (st.rows, tk0)).1 ∧
        TkAt G tk (((orderOf q.way st.rows.length).take i).foldl (turn1 q.way st.known st.cells fresh) (st.rows, tk0)).2 (200 * i) ∧ Kx (fun b => b ∈ q.rs ∨ b = tk) H3 G) ⟨none, rfl, R3.ro, tk3, Kx.refl⟩ (fun i σ G _ w => by
          obtain ⟨_, _, _, _, kx⟩ := w
          exact SqL.of (kx _ _ nD2s hD2)) (fun i x σ G hx w => ?_) (fun σ G w => ?_)
      · obtain ⟨y5, rfl, pr, gt, kx⟩ := w
        rw [List.getElem?_map] at hx
        obtain ⟨d, hd, rfl⟩ := Option.map_eq_some_iff.mp hx
        have il : i < (orderOf q.way st.rows.length).length := (List.getElem?_eq_some_iff.mp hd).1
        have dl : d < st.rows.length := mem_order.mp (List.mem_of_getElem? hd)
        have dm : d ≤ m := by rw [G0.len] at dl; omega
        have step := foldTake (f := turn1 q.way st.known st.cells fresh) (z := (st.rows, tk0)) hd
        have hB := turns_len (w := q.way) (k := st.known) (cs := st.cells) (fresh := fresh) ((orderOf q.way st.rows.length).take i) (st.rows, tk0) 50000 hrB
        have hT := TT i
        have hrl := turn_rows (w := q.way) (k := st.known) (cs := st.cells) (fresh := fresh) ((orderOf q.way st.rows.length).take i) (st.rows, tk0)
        generalize hS : ((orderOf q.way st.rows.length).take i).foldl (turn1 q.way st.known st.cells fresh) (st.rows, tk0) = S at pr gt step hB hT hrl
        obtain ⟨row, hrow⟩ : ∃ row, S.1[d]? = some row := ⟨_, List.getElem?_eq_getElem (by rw [hrl]; exact dl)⟩
        have eD : S.1.getD d [] = row := by rw [List.getD_eq_getElem?_getD, hrow]; rfl
        have rl : row.length ≤ 100000 := by
          have h1 := hB row (List.mem_of_getElem? hrow)
          have h2 : fresh.length * ((orderOf q.way st.rows.length).take i).length ≤ 100 * 51 := Nat.mul_le_mul fl (by rw [List.length_take]; omega)
          omega
        obtain ⟨rb, hrb, hrh⟩ := paired_get2 pr hrow
        have rbm := List.mem_of_getElem? hrb
        have obG := keep a _ (fun b hb => R3.ne_as hb) (fun _ z => by cases z) R3.ob G kx
        have rwG := keep q.r _ (fun b hb => R3.ne_rs hb) (fun _ z => by cases z) R3.rw G kx
        have lvG : LvAt G D (liveItems st.known st.cells fresh) := lv3.mv (ktK G kx) fun o h => kx _ _ (fun z => by
          rcases z with z | z
          · obtain ⟨row, _, g⟩ := paired_mem R3.ro z
            obtain ⟨kv2, h2, _⟩ := lv3.go
            rw [h2] at g
            cases g
          · exact nDt z) h
        have knG : KnAt G q.k st.known n := R3.kn.mv (ktK G kx) fun o h => kx _ _ (fun z => by
          obtain ⟨kv2, h2, _⟩ := R3.kn.go
          rcases z with z | z
          · exact R3.ne_ks z rfl
          · rw [z] at h2
            obtain ⟨kv3, h3, _⟩ := tk3.go
            rw [h3] at h2
            cases h2) h
        have frG := ktK G kx _ _ ht3
        have TO : TurnOk st.known m d (row, S.2) := ⟨fun p hp => hT.row d p (by rw [eD]; exact hp), hT.tk⟩
        have TA := again_fold (k := st.known) (m := m) dm (liveItems st.known st.cells fresh) (row, S.2) (fun x hx => (live_item hx).2.2) TO
        have nbt : rb ≠ tk := by
          obtain ⟨kv3, h3, _⟩ := gt.go
          exact ne_of hrh h3 (fun z => by cases z)
        have sub : ∀ b, b = rb ∨ b = tk → b ∈ q.rs ∨ b = tk := fun b z => z.elim (fun z => .inl (z ▸ rbm)) .inr
        have il200 : 200 * i ≤ 100000 := by omega
        have itl : (liveItems st.known st.cells fresh).length ≤ 100 := Nat.le_trans items_len fl
        refine ⟨.ref a, rfl, a, q.dx, _, rfl, obG, rfl, iV d, rfl, .ref D, rfl, .ref tk, rfl, a, q, d, D, tk, rb, liveItems st.known st.cells fresh, row, S.2, 200 * i, rfl, obG, rwG, hrb, R.ne_rs rbm, hrh, lvG, gt, nDt, itl, rl, il200, fun G2 r2 t2 kx2 => ?_⟩
        have kxs2 : Kx (fun b => b ∈ q.rs ∨ b = tk) H3 G2 := kx.trans (kx2.wk sub)
        have ktK2 : Kt G G2 := kx2.kt fun b z xs h => by
          rcases z with z | z
          · rw [z, hrh] at h
            cases h
          · rw [z] at h
            exact gt.notup xs h
        have obG2 := keep a _ (fun b hb => R3.ne_as hb) (fun _ z => by cases z) R3.ob G2 kxs2
        have rwG2 := keep q.r _ (fun b hb => R3.ne_rs hb) (fun _ z => by cases z) R3.rw G2 kxs2
        have nDr : D ≠ rb := by
          obtain ⟨kv2, h2, _⟩ := lvG.go
          exact ne_of h2 hrh (fun z => by cases z)
        have nkr : q.k ≠ rb := R3.ne_ks rbm
        have nkt : q.k ≠ tk := by
          obtain ⟨kv2, h2, _⟩ := knG.go
          obtain ⟨kv3, h3, _⟩ := gt.go
          exact ne_of h2 h3 (fun z => by cases z)
        refine ⟨.ref a, rfl, a, q.dx, _, rfl, obG2, rfl, iV d, rfl, .ref t1, rfl, .ref D, rfl, .ref tk, rfl, a, q, d, t1, D, tk, rb, fresh, st.cells, st.known, ((liveItems st.known st.cells fresh).foldl (again1 d) (row, S.2)).1, ((liveItems st.known st.cells fresh).foldl (again1 d) (row, S.2)).2, n, _, rfl, obG2, rwG2, hrb, R.ne_rs rbm, r2, ktK2 _ _ frG,
          lvG.mv ktK2 (fun o h => kx2 _ _ (fun z => z.elim nDr nDt) h), knG.mv ktK2 (fun o h => kx2 _ _ (fun z => z.elim nkr nkt) h), t2, nDt, fl, by omega, TA.row, fun G3 r3 t3 kx3 => ?_⟩
        have eT : turn1 q.way st.known st.cells fresh S d = (S.1.set d (takeD q.way st.known st.cells fresh d (row, S.2)).1, (takeD q.way st.known st.cells fresh d (row, S.2)).2) := by
          unfold turn1
          rw [eD]
        refine ⟨_, rfl, ?_, ?_, kxs2.trans (kx3.wk sub)⟩
        · rw [step, eT]
          refine paired_set (H := G) pr nrs hrb (fun c hc hn o h => ?_) r3
          have nct : c ≠ tk := by
            obtain ⟨kv3, h3, _⟩ := gt.go
            obtain ⟨row', _, h4⟩ := paired_mem pr hc
            exact ne_of h4 h3 (fun z => by cases z)
          exact kx3 _ _ (fun z => z.elim hn nct) (kx2 _ _ (fun z => z.elim hn nct) h)
        · rw [step, eT]
          refine t3.le ?_
          omega
      · obtain ⟨y5, rfl, pr, gt, kx⟩ := w
        rw [show (orderOf q.way st.rows.length).take ((orderOf q.way st.rows.length).map iV).length = orderOf q.way st.rows.length by rw [List.length_map, List.take_length]] at pr gt
        have frG := ktK G kx _ _ ht3
        have obG := keep a _ (fun b hb => R3.ne_as hb) (fun _ z => by cases z) R3.ob G kx
        have rwG := keep q.r _ (fun b hb => R3.ne_rs hb) (fun _ z => by cases z) R3.rw G kx
        have csG := keep q.c _ (fun b hb => R3.ne_cs hb) (fun _ z => by cases z) (e13 _ _ hcs) G kx
        have knG : KnAt G q.k st.known n := R3.kn.mv (ktK G kx) fun o h => kx _ _ (fun z => by
          obtain ⟨kv2, h2, _⟩ := R3.kn.go
          rcases z with z | z
          · exact R3.ne_ks z rfl
          · rw [z] at h2
            obtain ⟨kv3, h3, _⟩ := tk3.go
            rw [h3] at h2
            cases h2) h
        have nct : q.c ≠ tk := by
          obtain ⟨kv3, h3, _⟩ := gt.go
          exact ne_of csG h3 (fun z => by cases z)
        have F1 : Kx (fun b => Foot a q b ∨ H1 b = none) H1 G := (Kx.ex e13).trans (kx.wk notF)
        have tvG := (tv.mv (Kt.ex e13)).mv (ktK G kx)
        clear hT
        generalize hS : turns q.way st.known st.cells st.rows fresh = S
        have pr' : Paired (fun b row => G b = some (.lst (row.map iV))) q.rs S.1 := hS ▸ pr
        have gt' : TkAt G tk S.2 (200 * ((orderOf q.way st.rows.length).map iV).length) := hS ▸ gt
        refine ⟨.ref t1, rfl, t1, rfl, ⟨_, SqT.of frG⟩, ?_⟩
        refine for_tup (xs := fresh.map iV) (fun i σ G2 => ∃ y5 y6 ws, σ = [some (.ref a), some (.ref dr), some (.ref t1), some (.ref D), some (.ref tk), y5, y6] ∧ G2 q.c = some (.lst ws) ∧ TvAll G2 ws ((setAll S.2 st.cells (fresh.take i)).map cellP) ∧ Kx (· = q.c) G G2) ⟨y5, none, vs, rfl, csG, tvG, Kx.refl⟩ (fun i σ G2 _ w => by
          obtain ⟨_, _, _, _, _, _, kx2⟩ := w
          exact SqT.of (kx2 _ _ (fun e => by rw [e, csG] at frG; cases frG) frG)) (fun i x σ G2 hx w => ?_) (fun σ G2 w => ?_)
        · obtain ⟨y5, y6, ws, rfl, cG, tvw, kx2⟩ := w
          rw [List.getElem?_map] at hx
          obtain ⟨c, hc, rfl⟩ := Option.map_eq_some_iff.mp hx
          have hcm := List.mem_of_getElem? hc
          have il : i < fresh.length := (List.getElem?_eq_some_iff.mp hc).1
          have kt2 : Kt G G2 := kx2.kt fun b e xs => e ▸ fun z => by rw [csG] at z; cases z
          have gt2 : TkAt G2 tk S.2 _ := gt'.mv kt2 fun o h => kx2 _ _ nct.symm h
          obtain ⟨o, dg, kv⟩ := gt2.get c
          have wl : ws.length = st.cells.length := by
            rw [tvw.len, List.length_map, setAll_len]
          refine ⟨.ref tk, rfl, tk, rfl, gt2.is, iV c, rfl, o, dg, .ref a, rfl, a, C, q.dx, _, _, rfl, kx2 _ _ R3.ne_ac obG, T.cl, T.cells, st_cells, iV c, rfl, q.c, ws, _, c, rfl, rfl, cG, ?_, ?_⟩
          · unfold ixN
            have := fb c hcm
            rw [if_pos (by omega), if_pos (by omega), Int.toNat_natCast]
          · have kp : Kx (· = q.c) G2 (upd G2 q.c (.lst (ws.set c (o.getD .non)))) := Kx.put rfl
            have ktp := kp.kt fun b e xs => e ▸ fun z => by rw [cG] at z; cases z
            refine ⟨_, _, _, rfl, upd_same, ?_, kx2.trans kp⟩
            unfold setAll
            rw [foldTake hc]
            exact (tvSet c tvw kv.cell).mv ktp
        · obtain ⟨y5, y6, ws, rfl, cG, tvw, kx2⟩ := w
          rw [show fresh.take (fresh.map iV).length = fresh by rw [List.length_map, List.take_length]] at tvw
          have kt2 : Kt G G2 := kx2.kt fun b e xs => e ▸ fun z => by rw [csG] at z; cases z
          have nkc := R3.ne_kc
          refine ⟨.ref t1, rfl, k t1 G2 ?_ (kt2 _ _ frG) ?_⟩
          · have es : st.seal q.way ds = ⟨setAll S.2 st.cells fresh, st.known, S.1⟩ := by
              show (⟨setAll (turns q.way st.known st.cells st.rows (st.fresh q.way ds)).2 st.cells (st.fresh q.way ds), st.known, (turns q.way st.known st.cells st.rows (st.fresh q.way ds)).1⟩ : StT) = _
              rw [hfr, hS]
            rw [es]
            exact ⟨kx2 _ _ R3.ne_ac obG, ⟨ws, cG, tvw⟩, knG.mv kt2 fun o h => kx2 _ _ nkc h, kx2 _ _ R3.ne_cr.symm rwG, paired_im2 pr' fun b hb row h => kx2 _ _ (R3.ne_cs hb).symm h, R.nd⟩
          · exact (Kz.ks k1).thenK (F1.trans (kx2.wk fun b e => .inl (.inr (.inl e))))
end
end K04

set_option maxHeartbeats 4000000
namespace K04
open PySem PySem.Spec PyProof.Rows L2 Hd Evl
/-- nothing stands there, but maybe a table that is none yet -/
def Free (K : PySem.W.Frag) (H : Hp) (b : Addr) : Prop := ∀ o, H b = some o → (∃ ps, o = .tbl ps) ∧ Sk K b ∧ ¬ GxR.TabG H b
section
variable {K : PySem.W.Frag} {H G G' : Hp} {b : Addr}
theorem Ks.free (k : Ks K H G) (n : G b = none) : Free K H b := fun o h => by
  have t : ∃ ps, o = .tbl ps := Classical.byContradiction fun z => by
    have := k.e b o h fun ps e => z ⟨ps, e⟩
    rw [n] at this
    cases this
  refine ⟨t, Classical.byContradiction fun z => ?_, fun z => ?_⟩
  · have := k.s b o z h
    rw [n] at this
    cases this
  · obtain ⟨ps, h1, _⟩ := k.g b z
    rw [n] at h1
    cases h1
theorem Ks.thenZ {S : Addr → Prop} (k : Ks K H G) (z : Kz K S G G') (f : ∀ b, S b → Free K H b) : Ks K H G' :=
  ⟨fun b o h t => z.e b o (fun s => by obtain ⟨⟨ps, e⟩, _⟩ := f b s o h; exact t ps e) (k.e b o h t) t, fun b o t h => z.s b o (fun s => t (f b s o h).2.1) t (k.s b o t h), fun P h => z.g P (fun s => by
    obtain ⟨ps, h1, h2⟩ := h
    exact (f P s _ h1).2.2 ⟨ps, h1, h2⟩) (k.g P h)⟩
theorem Ks.thenX {S : Addr → Prop} (k : Ks K H G) (z : Kx S G G') (f : ∀ b, S b → Free K H b) : Ks K H G' := k.thenZ (Kz.of z) f
theorem Free.none (h : H b = Option.none) : Free K H b := fun o e => by rw [h] at e; cases e
end
def histP (x : CellsT × List Nat) : PyData := .tuple [.tuple (x.1.map cellP), .tuple (x.2.map intP)]
theorem tvInts {H : Hp} : ∀ l : List Nat, TvAll H (l.map iV) (l.map intP)
  | [] => .nil
  | _ :: r => .cons (.int _) (tvInts r)
/-- how far a run has come: the store at a, its history at D -/
structure RunI (K : PySem.W.Frag) (C : Addr) (H : Hp) (a D : Addr) (w : Way) (p c : Nat) (s : StT × HistT) (B : Nat) (G : Hp) : Prop where
  go : ∃ (q : SA) (n : Nat) (hv : List V), StR C a q s.1 n G ∧ n ≤ B ∧ q.way = w ∧ q.pages = p ∧ q.copies = c ∧ G D = some (.lst hv) ∧ TvAll G hv (s.2.map histP) ∧ (∀ b, Foot a q b → Free K H b) ∧ ∀ b, Foot a q b → b ≠ D
  ks : Ks K H G
  fD : Free K H D
section
variable {K : PySem.W.Frag} {C : Addr} {H G G' : Hp} {a D : Addr} {w : Way} {p c B : Nat} {s : StT × HistT}
theorem RunI.ex (R : RunI K C H a D w p c s B G) (e : Ex G G') : RunI K C H a D w p c s B G' := by
  obtain ⟨q, n, hv, r, b, e1, e2, e3, gD, tv, f1, f2⟩ := R.go
  exact ⟨⟨q, n, hv, r.ex e, b, e1, e2, e3, e _ _ gD, tv.mv (Kt.ex e), f1, f2⟩, R.ks.trans (Ks.ex e), R.fD⟩
theorem RunI.le {B' : Nat} (R : RunI K C H a D w p c s B G) (l : B ≤ B') : RunI K C H a D w p c s B' G := by
  obtain ⟨q, n, hv, r, b, z⟩ := R.go
  exact ⟨⟨q, n, hv, r, Nat.le_trans b l, z⟩, R.ks, R.fD⟩
end
section
variable {CX : CXT} {P : Program} {w : World} {K : PySem.W.Frag} {mg : Str → Option Value} {base : Heap} {C : Addr}
/-- the class Store as its users use it -/
structure StX (P : Program) (w : World) (K : PySem.W.Frag) (mg : Str → Option Value) (base : Heap) (C Pt : Addr) : Type where
  T : StC K mg C
  cls : mg "Store" = some (.ref C)
  fI : Addr
  dI : FuncData
  mkS : Mk K C fI
  I : FnOk P w K mg base CX0 1 fI dI ["self", "house", "way"] (spInit C)
  bI : Binds K dI ["self", "house", "way"] []
  fL : Addr
  dL : FuncData
  L : MeLive P w K mg base C fL dL
  fG : Addr
  dG : FuncData
  G : Me P w K mg base CX0 3 C "begin" ["self", "deepest"] (spBegin C) fG dG
  fU : Addr
  dU : FuncData
  U : Me P w K mg base CX0 1 C "put" ["self", "drawer", "page", "content"] (spPut C) fU dU
  fS : Addr
  dS : FuncData
  S : Me P w K mg base CX0 4 C "seal" ["self", "drawn_cells"] (spSeal K C Pt) fS dS
structure RunP (K : PySem.W.Frag) (C Pt : Addr) (vs : List V) (H : Hp) (Q : VK) : Prop where
  go : ∃ (hs lf cf : Addr) (n k d p c : Nat) (w : Way) (L : LifeT) (cs : List Nat), vs = [.ref hs, .str (wayS w), .ref lf, .ref cf] ∧ HouseAt H hs n k d p c ∧ Tv H (.ref lf) (lifeP L) ∧ RunL d p L ∧ H cf = some (.tup (cs.map iV)) ∧ cs.length = lenT L ∧ (∀ x ∈ cs, x < nck n k) ∧ GxR.TabG H Pt ∧
  ∀ t a D H', H' t = some (.tup [.ref a, .ref D]) → RunI K C H a D w p c (runT n w p c (setOf n k cs) L) 1000 H' → Q (.ref t) H'
def spRun (K : PySem.W.Frag) (C Pt : Addr) : Sp := fun vs H Q _ => RunP K C Pt vs H Q
theorem ks_kt {H H1 : Hp} (k : Ks K H H1) : Kt H H1 := fun b xs h => k.t _ _ h
theorem house_uniq {H : Hp} {a : Addr} {n k d p c n' k' d' p' c' : Nat} (h : HouseAt H a n k d p c) (h' : HouseAt H a n' k' d' p' c') : n = n' ∧ k = k' ∧ d = d' ∧ p = p' ∧ c = c' := by
  have e := h.at_.symm.trans h'.at_
  simp only [Option.some.injEq, HO.tup.injEq, List.cons.injEq, V.int.injEq, and_true] at e
  omega
theorem tvDeed3 {H : Hp} {v : V} {x : DeedT} (h : Tv H v (deedP x)) : ∃ t, v = .ref t ∧ H t = some (.tup [iV x.1, iV x.2.1, iV x.2.2]) := tv_deed h
theorem ok_run {f Pt CB CN fD : Addr} {fd dD : FuncData} (F : FnP K "run" s_run f fd) (B : Blt mg) (X : StX P w K mg base C Pt) (TD : Fn P w K mg base (L2.CX P w) 4 "drawn" ["house", "coin"] (spDrawn K CB CN) fD dD) : FnOk P w K mg base (L2.CX P w) 5 f fd ["house", "way", "life", "coins"] (spRun K C Pt) := by
  refine F.ok (CX := L2.CX P w) sc_run (fun vs H Q E h => ?_) (fun cdv A outer s H vs Q E hr h => ?_)
  · obtain ⟨hs, lf, cf, n, k, d, p, c, w, L, cs, rfl, _⟩ := h
    rfl
  · obtain ⟨hs, lf, cf, n, k, d, p, c, w, L, cs, rfl, hh, tv, ok, hcf, cl, co, hT, q⟩ := h
    refine ⟨_, (pss_cons (ps_set (i := 4) sc_run.nd rfl (Or.inl rfl) (pe_make X.mkS X.I (hr.mono (by decide)) (by rfl) X.cls X.bI .nil pass0 (pa_cons (pv 0) (pa_cons (pv 1) pa_nil))))
    (pss_cons (ps_set (i := 5) sc_run.nd rfl (Or.inl rfl) (pe_lst (pa_cons (pe_tup (pa_cons (pe_callTy call_tuple_of (by rfl) B.tuple (by decide +kernel) (pa_cons (pe_fld (pv 4) rfl) pa_nil)) (pa_cons (pe_tup pa_nil) pa_nil))) pa_nil)))
    (pss_cons (ps_for (passes_of rfl) rfl (pi_tup (pv 2)) (pg_tup rfl (pgs_cons (pg_name (i := 6) sc_run.nd rfl (Or.inl rfl)) (pgs_cons (pg_name (i := 7) sc_run.nd rfl (Or.inl rfl)) pgs_nil)))
      (pss_cons (ps_expr (pe_meth (pv 4) X.T.cl X.G.m X.G.G (hr.mono (by decide)) X.G.b .nil pass0 (pa_cons (pv 6) pa_nil)))
      (pss_one (ps_for (passes_of rfl) rfl (pi_tup (pv 7)) (pg_name (i := 8) sc_run.nd rfl (Or.inl rfl))
        (pss_cons (ps_for (passes_of rfl) rfl (pi_tup (pv 8)) (pg_tup rfl (pgs_cons (pg_name (i := 9) sc_run.nd rfl (Or.inl rfl)) (pgs_cons (pg_name (i := 10) sc_run.nd rfl (Or.inl rfl)) (pgs_cons (pg_name (i := 11) sc_run.nd rfl (Or.inl rfl)) pgs_nil))))
          (pss_one (ps_expr (pe_meth (pv 4) X.T.cl X.U.m X.U.G (hr.mono (by decide)) X.U.b .nil pass0 (pa_cons (pv 9) (pa_cons (pv 10) (pa_cons (pv 11) pa_nil)))))))
        (pss_cons (ps_set (i := 12) sc_run.nd rfl (Or.inl rfl) (pe_ix ix_tup (pv 3) (pe_op op_sub (pe_callB call_len_seq (by rfl) B.len (by decide +kernel) (pa_cons (pv 5) pa_nil)) pe_int) (fun _ _ => rfl)))
        (pss_cons (ps_set (i := 13) sc_run.nd rfl (Or.inl rfl) (pe_meth (pv 4) X.T.cl X.S.m X.S.G hr X.S.b .nil pass0 (pa_cons (pe_call TD.G hr (by rfl) TD.m TD.k TD.b .nil (passX (E := E) rfl rfl rfl rfl) (pa_cons (pv 0) (pa_cons (pv 12) pa_nil))) pa_nil)))
        (pss_one (ps_expr (pe_bm PySem.F.plainAttrs_list PySem.F.slot_list_append PySem.F.type_list_append mt_append (pv 5) (pa_cons (pe_tup (pa_cons (pe_callTy call_tuple_of (by rfl) B.tuple (by decide +kernel) (pa_cons (pe_fld (pv 4) rfl) pa_nil)) (pa_cons (pv 13) pa_nil))) pa_nil)))))))))))
    (pss_one (ps_ret (pe_tup (pa_cons (pv 4) (pa_cons (pv 5) pa_nil)))))))), ?_⟩
    -- the store
    refine ⟨.ref hs, rfl, .str (wayS w), rfl, fun x dx nx ndx nex => ⟨x, dx, hs, n, k, d, p, c, w, rfl, ?_, upd_same, fun c0 k0 r0 H1 R1 nc nk nr kx => ⟨rfl, ?_⟩⟩⟩
    · exact (hh.ex (Ex.new ndx)).ex (Ex.new (by rw [upd_ne nex.symm]; exact nx))
    have e0 : Ex H (upd (upd H dx (.own x)) x (.ins C dx [])) := (Ex.new ndx).trans (Ex.new (by rw [upd_ne nex.symm]; exact nx))
    have e1 : Ex H H1 := fun b o h => kx b o (fun z => by rw [z, nx] at h; cases h) (e0 b o h)
    have fr1 : ∀ b, Foot x ⟨dx, c0, k0, r0, [], w, p, c⟩ b → H b = none := fun b z => by
      rcases z with z | z | z | z | z
      · rw [z]; exact nx
      · rw [z]; exact Ex.none e0 nc
      · rw [z]; exact Ex.none e0 nk
      · rw [z]; exact Ex.none e0 nr
      · cases z
    clear nc nk nr kx e0 nex ndx
    -- the history
    obtain ⟨vs0, hc0, tv0⟩ := R1.cs
    refine ⟨.ref x, rfl, x, C, dx, _, _, rfl, R1.ob, X.T.cl, X.T.cells, st_cells, c0, vs0, rfl, .inl ⟨SqL.of hc0, fun t0 nt0 => ?_⟩⟩
    have e2 := Ex.new (o := HO.tup vs0) nt0
    refine ⟨by show 0 ≤ sizeLine; decide, fun t2 nt2 => ?_⟩
    have e3 := Ex.new (o := HO.tup []) nt2
    refine ⟨by show 2 ≤ sizeLine; decide, fun t3 nt3 => ?_⟩
    have e4 := Ex.new (o := HO.tup [V.ref t0, V.ref t2]) nt3
    refine ⟨by show 1 ≤ sizeLine; decide, fun D nD => ?_⟩
    have e5 := Ex.new (o := HO.lst [V.ref t3]) nD
    have e24 := (e2.trans e3).trans e4
    have e25 := e24.trans e5
    have start : RunI K C H x D w p c (st0 n, [(List.replicate n none, [])]) 0 (upd (upd (upd (upd H1 t0 (HO.tup vs0)) t2 (HO.tup [])) t3 (HO.tup [V.ref t0, V.ref t2])) D (HO.lst [V.ref t3])) := by
      refine ⟨⟨⟨dx, c0, k0, r0, [], w, p, c⟩, 0, [.ref t3], R1.ex e25, Nat.le_refl _, rfl, rfl, rfl, upd_same, ?_, fun b z => Free.none (fr1 b z), fun b z => ?_⟩, Ks.ex (e1.trans e25), Free.none (Ex.none (e1.trans e24) nD)⟩
      · refine .cons (.tup (e5 _ _ upd_same) (.cons (.tup (e5 _ _ (e4 _ _ (e3 _ _ upd_same))) (tv0.mv (Kt.ex e25))) (.cons (.tup (e5 _ _ (e4 _ _ upd_same)) .nil) .nil))) .nil
      · exact (R1.ex e24).new z nD
    show (tSeq _ _ _ _ _ : Prop)
    generalize upd (upd (upd (upd H1 t0 (HO.tup vs0)) t2 (HO.tup [])) t3 (HO.tup [V.ref t0, V.ref t2])) D (HO.lst [V.ref t3]) = G0 at start ⊢
    clear e2 e3 e4 e5 e24 e25 nt0 nt2 nt3 nD tv0 hc0 vs0 e1 fr1 R1 nx
    obtain ⟨ss, hs0, all⟩ := tv_ref tv
    have hl : ss.length = L.length := by rw [all.len, List.length_map]
    have setsOk : ∀ j, j < lenT L → (setOf n k cs j).Nodup ∧ (∀ x ∈ setOf n k cs j, x < n) ∧ (setOf n k cs j).length ≤ n := fun j hj => by
      have hj' : j < cs.length := cl ▸ hj
      have hx : cs.getD j 0 < nck n k := by
        rw [List.getD_eq_getElem?_getD, List.getElem?_eq_getElem hj']
        exact co _ (List.getElem_mem hj')
      obtain ⟨a1, a2, a3⟩ := draw_ok hx
      exact ⟨a1, a2, by unfold setOf; rw [a3]; exact hh.kn⟩
    refine ⟨.ref lf, rfl, lf, rfl, ⟨ss, SqT.of (start.ks.t _ _ hs0)⟩, ?_⟩
    refine for_tup (xs := ss) (fun i σ G => ∃ y6 y7 y8 y9 y10 y11 y12 y13, σ = [some (.ref hs), some (.str (wayS w)), some (.ref lf), some (.ref cf), some (.ref x), some (.ref D), y6, y7, y8, y9, y10, y11, y12, y13] ∧ RunI K C H x D w p c ((L.take i).foldl (sessT w p c (setOf n k cs)) (st0 n, [(List.replicate n none, [])])) 1000 G ∧ Rs n p (lenT (L.take i)) ((L.take i).foldl (sessT w p c (setOf n k cs)) (st0 n, [(List.replicate n none, [])])))
      ⟨none, none, none, none, none, none, none, none, rfl, start.le (by decide), rs0 n p⟩ (fun i σ G _ w => by
        obtain ⟨_, _, _, _, _, _, _, _, _, R, _⟩ := w
        exact SqT.of (R.ks.t _ _ hs0)) (fun i v σ G hx w => ?_) (fun σ G w => ?_)
    · obtain ⟨y6, y7, y8, y9, y10, y11, y12, y13, rfl, R, Rq⟩ := w
      obtain ⟨sx, hsx, tvx⟩ := tv_at all hx
      have il : i < L.length := (List.getElem?_eq_some_iff.mp hsx).1
      obtain ⟨du, bm⟩ := ok.sess sx (List.mem_of_getElem? hsx)
      have stepS := foldTake (f := sessT w p c (setOf n k cs)) (z := (st0 n, [(List.replicate n none, [])])) hsx
      have lenS : lenT (L.take (i + 1)) = lenT (L.take i) + sx.2.length := by
        unfold lenT
        rw [takeSnoc hsx, List.map_append, List.sum_append]
        simp
      have lenL : lenT (L.take (i + 1)) ≤ lenT L := lenT_take _ _
      generalize hS0 : (L.take i).foldl (sessT w p c (setOf n k cs)) (st0 n, [(List.replicate n none, [])]) = S0 at R Rq stepS
      obtain ⟨tt, u, us, rfl, h1, h2, h3⟩ := tv_sess (tvx.mv (ks_kt R.ks))
      have hul : us.length = sx.2.length := by rw [h3.len, List.length_map]
      refine ⟨tt, _, rfl, SqT.of h1, rfl, _, _, rfl, _, _, rfl, rfl, ?_⟩
      obtain ⟨q0, nn, hv, Rs0, bn, e1, e2, e3, gD, tvh, fr, nD⟩ := R.go
      have d4 := hh.d4
      have p6 := hh.p6
      have c3 := hh.c3
      have n12 := hh.n12
      refine ⟨.ref x, rfl, x, q0.dx, _, rfl, Rs0.ob, rfl, iV sx.1, rfl, x, q0, S0.1, nn, sx.1, rfl, Rs0, ⟨by rw [Rq.len]; omega, by omega, by omega⟩, by omega, fun k2 r2 rs2 G2 R2 nk nr nrs kx => ?_⟩
      have nxD : x ≠ D := nD x (.inl rfl)
      have kt2 : Kt G G2 := kx.kt fun b e xs => e ▸ fun z => by rw [Rs0.ob] at z; cases z
      rw [e2, e3] at R2
      have begun : RunI K C H x D w p c (S0.1.begin p c sx.1, S0.2) (100 + 10 * 0) G2 := by
        refine ⟨⟨_, _, hv, R2, by rw [Rq.len]; omega, e1, rfl, rfl, kx _ _ nxD.symm gD, tvh.mv kt2, fun b z => ?_, fun b z => ?_⟩, R.ks.thenX kx fun b e => e ▸ fr x (.inl rfl), R.fD⟩
        · rcases z with z | z | z | z | z
          · exact fr b (.inl z)
          · exact fr b (.inr (.inl z))
          · exact R.ks.free (z ▸ nk)
          · exact R.ks.free (z ▸ nr)
          · exact R.ks.free (nrs b z)
        · rcases z with z | z | z | z | z
          · exact nD b (.inl z)
          · exact nD b (.inr (.inl z))
          · rw [z]; exact (ne_of_none gD nk).symm
          · rw [z]; exact (ne_of_none gD nr).symm
          · exact (ne_of_none gD (nrs b z)).symm
      have Rn0 : Rn n p sx.1 (lenT (L.take i)) (S0.1.begin p c sx.1, S0.2) := rn_begin Rq p6 c3
      have hu2 := kt2 _ _ h2
      have h32 := h3.mv kt2
      clear R Rs0 gD tvh fr nD kx R2 nk nr nrs kt2 h1 h2 h3 e1 e2 e3
      refine ⟨.ref u, rfl, u, rfl, ⟨us, SqT.of hu2⟩, ?_⟩
      generalize hS1 : (S0.1.begin p c sx.1, S0.2) = S1 at begun Rn0
      have ksM : ∀ (G' : Hp) (s' : StT × HistT) (B' : Nat), RunI K C H x D w p c s' B' G' → Ks K G2 G' → True := fun _ _ _ _ _ => trivial
      refine for_tup (xs := us) (fun j σ G3 => ∃ y8 y9 y10 y11 y12 y13, σ = [some (.ref hs), some (.str (wayS w)), some (.ref lf), some (.ref cf), some (.ref x), some (.ref D), some (iV sx.1), some (.ref u), y8, y9, y10, y11, y12, y13] ∧ RunI K C H x D w p c ((sx.2.take j).foldl (momT w c (setOf n k cs)) S1) (100 + 10 * j) G3 ∧ Rn n p sx.1 (lenT (L.take i) + j) ((sx.2.take j).foldl (momT w c (setOf n k cs)) S1) ∧ Kt G2 G3)
        ⟨y8, y9, y10, y11, y12, y13, rfl, begun, Rn0, Kt.refl⟩ (fun j σ G3 _ w => by
          obtain ⟨_, _, _, _, _, _, _, _, _, kt⟩ := w
          exact SqT.of (kt _ _ hu2)) (fun j v σ G3 hx w => ?_) (fun σ G3 w => ?_)
      · obtain ⟨y8, y9, y10, y11, y12, y13, rfl, R, Rj, kt⟩ := w
        obtain ⟨m, hm, tvm⟩ := tv_at h32 hx
        have jl : j < sx.2.length := (List.getElem?_eq_some_iff.mp hm).1
        obtain ⟨ml, mx⟩ := bm m (List.mem_of_getElem? hm)
        have stepM := foldTake (f := momT w c (setOf n k cs)) (z := S1) hm
        generalize hS2 : (sx.2.take j).foldl (momT w c (setOf n k cs)) S1 = S2 at R Rj stepM
        obtain ⟨mt, dsv, rfl, hmt, a3⟩ := tv_tup (tvm.mv kt)
        have dl : dsv.length = m.length := by rw [a3.len, List.length_map]
        refine ⟨.ref mt, rfl, mt, rfl, ⟨dsv, SqT.of hmt⟩, ?_⟩
        have jL : lenT (L.take i) + j < lenT L := by omega
        have l40 := ok.len
        refine for_tup (xs := dsv) (fun l σ G4 => ∃ y9 y10 y11, σ = [some (.ref hs), some (.str (wayS w)), some (.ref lf), some (.ref cf), some (.ref x), some (.ref D), some (iV sx.1), some (.ref u), some (.ref mt), y9, y10, y11, y12, y13] ∧ RunI K C H x D w p c ((m.take l).foldl (StT.put c) S2.1, S2.2) (100 + 10 * j + l) G4 ∧ Kt G3 G4)
          ⟨y9, y10, y11, rfl, R, Kt.refl⟩ (fun l σ G4 _ w => by
            obtain ⟨_, _, _, _, _, kt⟩ := w
            exact SqT.of (kt _ _ hmt)) (fun l v σ G4 hx w => ?_) (fun σ G4 w => ?_)
        · obtain ⟨y9, y10, y11, rfl, R, kt4⟩ := w
          obtain ⟨xd, hxd, tvd⟩ := tv_at a3 hx
          have ll : l < m.length := (List.getElem?_eq_some_iff.mp hxd).1
          have stepD := foldTake (f := StT.put c) (z := S2.1) hxd
          have gd := puts_good (pages := p) (u := sx.1) hh.c1 (m.take l) S2.1 Rj.good fun y hy => mx y (List.mem_of_mem_take hy)
          have rl := puts_le (copies := c) (m.take l) S2.1 _ Rj.rows
          have cl2 := puts_cells (copies := c) (m.take l) S2.1
          have rlen : c * (m.take l).length ≤ 3 * 6 := Nat.mul_le_mul c3 (by rw [List.length_take]; omega)
          obtain ⟨dt, rfl, hdt⟩ := tv_deed (tvd.mv kt4)
          obtain ⟨q1, nn1, hv1, R1, bn1, e1, e2, e3, gD1, tvh1, fr1, nD1⟩ := R.go
          have dx := mx xd (List.mem_of_getElem? hxd)
          refine ⟨dt, _, rfl, SqT.of hdt, rfl, _, _, rfl, _, _, rfl, _, _, rfl, rfl, ?_⟩
          refine ⟨.ref x, rfl, x, q1.dx, _, rfl, R1.ob, rfl, iV xd.1, rfl, iV xd.2.1, rfl, iV xd.2.2, rfl, x, q1, _, nn1, xd, rfl, R1, ⟨?_, by omega, by omega⟩, by omega, ?_, ?_, fun G5 R5 kx5 => ?_⟩
          · show ((m.take l).foldl (StT.put c) S2.1).cells.length ≤ 100
            rw [cl2, Rj.cells]
            omega
          · show xd.1 < ((m.take l).foldl (StT.put c) S2.1).rows.length
            rw [gd.len]
            exact Nat.lt_succ_of_le dx.1
          · exact fun r hr => Nat.le_trans (rl r hr) (by omega)
          · have kt5 : Kt G4 G5 := kx5.kt fun b z xs => R1.notup z xs
            rw [e3] at R5
            refine ⟨_, _, _, rfl, ?_, kt4.trans kt5⟩
            rw [stepD]
            exact ⟨⟨q1, nn1 + 1, hv1, R5, by omega, e1, e2, e3, kx5 _ _ (fun z => nD1 D z rfl) gD1, tvh1.mv kt5, fr1, nD1⟩, R.ks.thenX kx5 fr1, R.fD⟩
        · obtain ⟨y9, y10, y11, rfl, R, kt4⟩ := w
          rw [dl, List.take_length] at R
          obtain ⟨q1, nn1, hv1, R1, bn1, e1, e2, e3, gD1, tvh1, fr1, nD1⟩ := R.go
          have hvl : hv1.length = lenT (L.take i) + j + 1 := by
            rw [tvh1.len, List.length_map]
            exact Rj.hist
          have hcf4 := R.ks.t _ _ hcf
          have hjc : lenT (L.take i) + j < cs.length := cl ▸ jL
          have hat : cs[lenT (L.take i) + j]? = some cs[lenT (L.take i) + j] := List.getElem?_eq_getElem hjc
          have hcx := co _ (List.mem_of_getElem? hat)
          have eset : setOf n k cs (S2.2.length - 1) = drawN n k cs[lenT (L.take i) + j] 0 := by
            unfold setOf
            rw [Rj.hist, Nat.add_sub_cancel, List.getD_eq_getElem?_getD, hat]
            rfl
          have sok := setsOk _ jL
          have gd := puts_good (pages := p) (u := sx.1) hh.c1 m S2.1 Rj.good mx
          have rl := puts_le (copies := c) m S2.1 _ Rj.rows
          have cl2 := puts_cells (copies := c) m S2.1
          have rlen : c * m.length ≤ 3 * 6 := Nat.mul_le_mul c3 ml
          have hh4 := hh.ks R.ks
          refine ⟨.ref cf, rfl, .ref D, rfl, D, hv1, rfl, .inl (SqL.of gD1), _, _, rfl, rfl, cf, _, _, iV cs[lenT (L.take i) + j], rfl, rfl, SqT.of hcf4, ?_, ?_⟩
          · rw [hvl]
            rw [show (((lenT (L.take i) + j + 1 : Nat) : Int) - 1) = ((lenT (L.take i) + j : Nat) : Int) by omega]
            exact atI_nat (by rw [List.getElem?_map, hat] <;> rfl)
          refine ⟨.ref x, rfl, x, q1.dx, _, rfl, R1.ob, rfl, .ref hs, rfl, iV cs[lenT (L.take i) + j], rfl, .ref hs, _, none, rfl, hh4.wr, (fun y e => by cases e), fun a' n' k' d' p' c' ea h' => ?_⟩
          cases ea
          obtain ⟨rfl, rfl, rfl, rfl, rfl⟩ := house_uniq hh4 h'
          refine ⟨⟨_, .int _⟩, fun z => ?_, fun ix ei hix => ?_⟩
          · exfalso
            rw [isNum_nat, decide_eq_true (show (0 : Int) ≤ _ by omega), decide_eq_true (show ((cs[lenT (L.take i) + j] : Nat) : Int) ≤ (nck n k : Nat) - 1 by omega)] at z
            cases z
          · have ei' : cs[lenT (L.take i) + j] = ix := by injection ei with ei; exact Int.ofNat.inj ei
            subst ei'
            intro dr G5 ndr e5 hdr
            have R5 := R1.ex e5
            have sok2 := sok
            rw [show setOf n k cs (lenT (L.take i) + j) = drawN n k cs[lenT (L.take i) + j] 0 by rw [← eset, Rj.hist]; rfl] at sok2
            refine ⟨x, q1, _, nn1, sx.1, dr, drawN n k cs[lenT (L.take i) + j] 0, rfl, R5, ⟨?_, by omega, by omega⟩, by rw [e2]; exact gd, hdr, by omega, sok2.1, ?_, by omega, fun r hr => Nat.le_trans (rl r hr) (by omega), by omega, tab_ex (R.ks.g _ hT) e5, fun t6 G6 R6 ht6 kz => ?_⟩
            · show (m.foldl (StT.put c) S2.1).cells.length ≤ 100
              rw [cl2, Rj.cells]
              omega
            · intro y hy
              show y < (m.foldl (StT.put c) S2.1).cells.length
              rw [cl2, Rj.cells]
              exact sok2.2.1 y hy
            · have gD6 : G6 D = some (.lst hv1) := kz.e _ _ (fun z => nD1 D z rfl) (e5 _ _ gD1) (fun ps z => by cases z)
              have kt6 : Kt G5 G6 := kz.kt fun b z xs => R5.notup z xs
              have ks6 : Ks K H G6 := (R.ks.trans (Ks.ex e5)).thenZ kz fr1
              have ktA := (kt4.trans (Kt.ex e5)).trans kt6
              have tvh6 := (tvh1.mv (Kt.ex e5)).mv kt6
              rw [e1] at R6 ht6
              obtain ⟨vs6, hc6, tv6⟩ := R6.cs
              refine ⟨.ref D, rfl, .inl ⟨rfl, _, SqL.of gD6⟩, .ref x, rfl, x, C, q1.dx, _, _, rfl, R6.ob, X.T.cl, X.T.cells, st_cells, q1.c, vs6, rfl, .inl ⟨SqL.of hc6, fun t7 nt7 => ?_⟩⟩
              have e7 := Ex.new (o := HO.tup vs6) nt7
              refine ⟨.ref t6, rfl, by show 2 ≤ sizeLine; decide, fun t8 nt8 => ?_⟩
              have e8 := Ex.new (o := HO.tup [V.ref t7, V.ref t6]) nt8
              have e78 := e7.trans e8
              have gD8 := e78 _ _ gD6
              refine ⟨D, hv1, .ref t8, rfl, rfl, gD8, ?_, ?_⟩
              · rw [hvl]
                exact Nat.lt_of_le_of_lt (show lenT (L.take i) + j + 1 ≤ 100 by omega) (by decide)
              have kp : Kx (· = D) (upd (upd G6 t7 (.tup vs6)) t8 (.tup [V.ref t7, V.ref t6])) _ := Kx.put (o := .lst (hv1 ++ [V.ref t8])) rfl
              have ktp := kp.kt fun b e xs => e ▸ fun z => by rw [gD8] at z; cases z
              have eM : momT w c (setOf n k cs) S2 m = (((m.foldl (StT.put c) S2.1).seal w (drawN n k cs[lenT (L.take i) + j] 0)), S2.2 ++ [(((m.foldl (StT.put c) S2.1).seal w (drawN n k cs[lenT (L.take i) + j] 0)).cells, (m.foldl (StT.put c) S2.1).fresh w (drawN n k cs[lenT (L.take i) + j] 0))]) := by
                unfold momT
                rw [eset]
              have R8 := R6.ex e78
              refine ⟨_, _, _, _, _, _, rfl, ?_, ?_, ((ktA.trans (Kt.ex e78)).trans ktp) |> fun z => kt.trans z⟩
              · rw [stepM, eM]
                refine ⟨⟨q1, nn1, hv1 ++ [.ref t8], R8.kz (K := K) (F := (· = D)) (Kz.of kp) (fun b e z => nD1 b z e) (fun b e xs => e ▸ fun z => by rw [gD8] at z; cases z), by omega, e1, e2, e3, upd_same, ?_, fr1, nD1⟩, (ks6.trans (Ks.ex e78)).thenX kp (fun b e => e ▸ R.fD), R.fD⟩
                rw [List.map_append]
                refine TvAll.app ((tvh6.mv (Kt.ex e78)).mv ktp) (.cons ?_ .nil)
                exact Tv.mv (.tup upd_same (.cons (.tup (e8 _ _ upd_same) (tv6.mv (Kt.ex e78))) (.cons (.tup (e78 _ _ ht6) (tvInts _)) .nil))) ktp
              · rw [stepM]
                exact rn_mom Rj (by omega) n12 c3 hh.c1 ml mx sok
      · obtain ⟨y8, y9, y10, y11, y12, y13, rfl, R, Rj, kt⟩ := w
        rw [hul, List.take_length] at R Rj
        have eS : (L.take (i + 1)).foldl (sessT w p c (setOf n k cs)) (st0 n, [(List.replicate n none, [])]) = sx.2.foldl (momT w c (setOf n k cs)) S1 := by
          rw [stepS, ← hS1]
          rfl
        refine ⟨_, _, _, _, _, _, _, _, rfl, ?_, ?_⟩
        · rw [eS]
          exact R.le (by have := ok.len; omega)
        · rw [eS, lenS]
          exact Rj.rs
    · obtain ⟨y6, y7, y8, y9, y10, y11, y12, y13, rfl, R, _⟩ := w
      rw [hl, List.take_length] at R
      refine ⟨.ref x, rfl, .ref D, rfl, by show 2 ≤ sizeLine; decide, fun t nt => ?_⟩
      exact q t x D _ upd_same (R.ex (Ex.new nt))
end
end K04

set_option maxHeartbeats 4000000
namespace K04
open PySem PySem.Spec PyProof.Rows L2 Hd Evl
/-- the error classes -/
structure Cs where
  B : Addr
  S : Addr
  L : Addr
  C : Addr
  D : Addr
  P : Addr
  N : Addr
  Z : Addr
/-- the program's own tables -/
structure Tb where
  m : Addr
  s : Addr
  n : Addr
  o : Addr
  p : Addr
  u : Addr
  a : Addr
theorem pss_never {X : Cx} {l : List Stmt} : PSs X l (fun _ _ _ => False) := ⟨fun _ _ _ _ _ _ h => h.elim⟩
section
variable {K : PySem.W.Frag} {H : Hp} {vs : List V} {Q Q' : VK} {E : XK} {cs : Cs} {tb : Tb}
theorem mono_house {C : Addr} (h : spCheck K C vs H Q E) (f : ∀ v H1, Q v H1 → Q' v H1) : spCheck K C vs H Q' E := by
  obtain ⟨v, o, e, w, q1, q2⟩ := h
  exact ⟨v, o, e, w, fun z => f _ _ (q1 z), q2⟩
theorem mono_life {C Pm Ps : Addr} (h : spLife K C Pm Ps vs H Q E) (f : ∀ v H1, Q v H1 → Q' v H1) : spLife K C Pm Ps vs H Q' E := by
  obtain ⟨a, n, k, d, p, c, v, o, e, h1, h2, h3, h4, q1, q2⟩ := h
  exact ⟨a, n, k, d, p, c, v, o, e, h1, h2, h3, h4, q1, fun l el => ⟨fun g H2 k2 => f _ _ ((q2 l el).1 g H2 k2), (q2 l el).2⟩⟩
theorem mono_story {C Pm : Addr} (h : spStory K C Pm vs H Q E) (f : ∀ v H1, Q v H1 → Q' v H1) : spStory K C Pm vs H Q' E := by
  obtain ⟨a, n, k, d, p, c, v, o, e, h1, h2, h3, q1, q2⟩ := h
  exact ⟨a, n, k, d, p, c, v, o, e, h1, h2, h3, q1, fun l el => ⟨fun g H2 k2 t2 => f _ _ ((q2 l el).1 g H2 k2 t2), (q2 l el).2⟩⟩
theorem mono_way {C : Addr} (h : spWay K C vs H Q E) (f : ∀ v H1, Q v H1 → Q' v H1) : spWay K C vs H Q' E := by
  obtain ⟨v, s, e, k, q1, q2⟩ := h
  exact ⟨v, s, e, k, fun z => f _ _ (q1 z), q2⟩
theorem mono_coins {C Pn : Addr} (h : spCoins K C Pn vs H Q E) (f : ∀ v H1, Q v H1 → Q' v H1) : spCoins K C Pn vs H Q' E := by
  obtain ⟨a, n, k, d, p, c, l, ss, ls, v, o, e, h1, h2, h3, h4, h5, h6, q1, q2⟩ := h
  exact ⟨a, n, k, d, p, c, l, ss, ls, v, o, e, h1, h2, h3, h4, h5, h6, q1, fun l el => ⟨fun g H2 k2 t2 => f _ _ ((q2 l el).1 g H2 k2 t2), (q2 l el).2⟩⟩
theorem mono_chk {top : Nat → Nat → Nat} {C : Addr} (h : spChk K top C vs H Q E) (f : ∀ v H1, Q v H1 → Q' v H1) : spChk K top C vs H Q' E := by
  obtain ⟨a, n, k, d, p, c, v, s, e, h1, h2, q1, q2⟩ := h
  exact ⟨a, n, k, d, p, c, v, s, e, h1, h2, fun z => f _ _ (q1 z), q2⟩
end
/-- the checks -/
structure Ch (P : Program) (w : World) (K : PySem.W.Frag) (mg : Str → Option Value) (base : Heap) (cs : Cs) (tb : Tb) : Type where
  fH : Addr
  dH : FuncData
  H : Fn P w K mg base (L2.CX P w) 3 "check_house" ["house"] (spCheck K cs.B) fH dH
  fL : Addr
  dL : FuncData
  L : Fn P w K mg base (L2.CX P w) 9 "check_life" ["house", "life"] (spLife K cs.L tb.m tb.s) fL dL
  fW : Addr
  dW : FuncData
  W : Fn P w K mg base (L2.CX P w) 3 "check_way" ["way"] (spWay K cs.B) fW dW
  fC : Addr
  dC : FuncData
  C : Fn P w K mg base (L2.CX P w) 3 "check_coins" ["house", "life", "coins"] (spCoins K cs.C tb.n) fC dC
  fD : Addr
  dD : FuncData
  D : Fn P w K mg base (L2.CX P w) 3 "check_drawer" ["house", "drawer"] (spChk K (fun d _ => d) cs.D) fD dD
  fP : Addr
  dP : FuncData
  G : Fn P w K mg base (L2.CX P w) 3 "check_page" ["house", "page"] (spChk K (fun _ p => p) cs.P) fP dP
section
variable {P : Program} {w : World} {K : PySem.W.Frag} {mg : Str → Option Value} {base : Heap} {cs : Cs} {tb : Tb}
def sp_check_run (K : PySem.W.Frag) (cs : Cs) (tb : Tb) : Sp := fun vs H Q E => ∃ v0 v1 v2 v3, vs = [v0, v1, v2, v3] ∧ spCheck K cs.B [v0] H (fun _ H1 => spLife K cs.L tb.m tb.s [v0, v2] H1 (fun _ H2 => spWay K cs.B [v1] H2 (fun _ H3 => spCoins K cs.C tb.n [v0, v2, v3] H3 (fun _ H4 => Q .non H4) E) E) E) E
theorem ok_check_run {f : Addr} {fd : FuncData} (F : FnP K "check_run" s_check_run f fd) (c : Ch P w K mg base cs tb) : FnOk P w K mg base (L2.CX P w) 10 f fd ["house", "way", "life", "coins"] (sp_check_run K cs tb) := by
  refine F.ok (CX := L2.CX P w) sc_check_run (fun vs H Q E h => ?_) (fun cdv A outer s H vs Q E hr h => ?_)
  · obtain ⟨v0, v1, v2, v3, rfl, _⟩ := h
    rfl
  · obtain ⟨v0, v1, v2, v3, rfl, h⟩ := h
    refine ⟨_, (pss_cons (ps_expr (pe_call c.H.G (hr.mono (by decide)) (by rfl) c.H.m c.H.k c.H.b .nil (passX (E := E) rfl rfl rfl rfl) (pa_cons (pv 0) pa_nil))) (pss_cons (ps_expr (pe_call c.L.G (hr.mono (by decide)) (by rfl) c.L.m c.L.k c.L.b .nil (passX (E := E) rfl rfl rfl rfl) (pa_cons (pv 0) (pa_cons (pv 2) pa_nil)))) (pss_cons (ps_expr (pe_call c.W.G (hr.mono (by decide)) (by rfl) c.W.m c.W.k c.W.b .nil (passX (E := E) rfl rfl rfl rfl) (pa_cons (pv 1) pa_nil))) (pss_one (ps_expr (pe_call c.C.G (hr.mono (by decide)) (by rfl) c.C.m c.C.k c.C.b .nil (passX (E := E) rfl rfl rfl rfl) (pa_cons (pv 0) (pa_cons (pv 2) (pa_cons (pv 3) pa_nil))))))))), ?_⟩
    refine ⟨v0, rfl, ?_⟩
    dsimp only [tNil, tCall, List.append_nil]
    refine mono_house h (fun _ H1 h1 => ?_)
    refine ⟨v0, rfl, v2, rfl, ?_⟩
    dsimp only [tNil, tCall, List.append_nil]
    refine mono_life h1 (fun _ H2 h2 => ?_)
    refine ⟨v1, rfl, ?_⟩
    dsimp only [tNil, tCall, List.append_nil]
    refine mono_way h2 (fun _ H3 h3 => ?_)
    refine ⟨v0, rfl, v2, rfl, v3, rfl, ?_⟩
    dsimp only [tNil, tCall, List.append_nil]
    exact mono_coins h3 (fun _ _ z => z)
theorem mono_check_run {vs : List V} {H : Hp} {Q Q' : VK} {E : XK} (h : sp_check_run K cs tb vs H Q E) (f : ∀ v H1, Q v H1 → Q' v H1) : sp_check_run K cs tb vs H Q' E := by
  obtain ⟨v0, v1, v2, v3, e, h⟩ := h
  exact ⟨v0, v1, v2, v3, e, mono_house h (fun _ H1 h1 => mono_life h1 (fun _ H2 h2 => mono_way h2 (fun _ H3 h3 => mono_coins h3 (fun _ _ z => f _ _ z))))⟩

structure KeyP (K : PySem.W.Frag) (CD : Addr) (vs : List V) (H : Hp) (Q : VK) (E : XK) : Prop where
  go : ∃ (hs lf : Addr) (n k d p c : Nat) (L : LifeT) (v : V) (s : String), vs = [.ref hs, .ref lf, v] ∧ HouseAt H hs n k d p c ∧ Tv H (.ref lf) (lifeP L) ∧ L ≠ [] ∧ lastOf L < d ∧ KindV K H v s ∧
  (isNum v 0 (lastOf L : Nat) = true → Q .non H) ∧ (isNum v 0 (lastOf L : Nat) = false → E (.ref CD) none H)
def spKey (K : PySem.W.Frag) (CD : Addr) : Sp := fun vs H Q E => KeyP K CD vs H Q E
theorem mono_key {CD : Addr} {vs : List V} {H : Hp} {Q Q' : VK} {E : XK} (h : spKey K CD vs H Q E) (f : ∀ v H1, Q v H1 → Q' v H1) : spKey K CD vs H Q' E := by
  obtain ⟨hs, lf, n, k, d, p, c, L, v, s, e, h1, h2, h3, h4, h5, q1, q2⟩ := h
  exact ⟨hs, lf, n, k, d, p, c, L, v, s, e, h1, h2, h3, h4, h5, fun z => f _ _ (q1 z), q2⟩
theorem atI_last {α : Type} {xs : List α} {v : α} (h0 : 0 < xs.length) (h : xs[xs.length - 1]? = some v) : atI xs (-1) = some v := by
  unfold atI ixN
  rw [if_neg (by decide), if_pos (by omega)]
  show xs[((-1 : Int) + (xs.length : Int)).toNat]? = some v
  rw [show ((-1 : Int) + (xs.length : Int)).toNat = xs.length - 1 by omega]
  exact h
theorem ok_check_key {f fD : Addr} {fd dD : FuncData} {CD : Addr} (F : FnP K "check_key" s_check_key f fd) (D : Fn P w K mg base (L2.CX P w) 3 "check_drawer" ["house", "drawer"] (spChk K (fun d _ => d) CD) fD dD) (N : ErrP K mg "BadDrawer" CD) : FnOk P w K mg base (L2.CX P w) 4 f fd ["house", "life", "drawer"] (spKey K CD) := by
  refine F.ok (CX := L2.CX P w) sc_check_key (fun vs H Q E h => ?_) (fun cdv A outer s H vs Q E hr h => ?_)
  · obtain ⟨hs, lf, n, k, d, p, c, L, v, s, rfl, _⟩ := h
    rfl
  · obtain ⟨hs, lf, n, k, d, p, c, L, v, sk, rfl, hh, tv, hL, hd, hk, q1, q2⟩ := h
    refine ⟨_, (pss_cons (ps_expr (pe_call D.G hr (by rfl) D.m D.k D.b .nil (passX (E := E) rfl rfl rfl rfl) (pa_cons (pv 0) (pa_cons (pv 2) pa_nil))))
      (pss_one (ps_if (pt_cmpR op_gt (pv 2) (pe_ix ix_tup (pe_ix ix_tup (pv 1) (pe_un un_neg pe_int) (fun _ _ => rfl)) pe_int (fun _ _ => rfl)) (nomark _)) (pss_one (ps_raiseP N rfl (takes_of (E := E) rfl rfl rfl rfl) (by rfl))) pss_nil))), ?_⟩
    obtain ⟨ss, hss, all⟩ := tv_ref tv
    have hl : ss.length = L.length := by rw [all.len, List.length_map]
    have hpos : 0 < L.length := List.length_pos_iff.mpr hL
    obtain ⟨sl, hsl, el⟩ := last_at hL
    obtain ⟨vl, hvl, tvl⟩ := tvAtD all hsl
    obtain ⟨t, u, us, rfl, g1, _, _⟩ := tv_sess tvl
    refine ⟨.ref hs, rfl, v, rfl, hs, n, k, d, p, c, v, sk, rfl, hh, hk, fun z => ?_, fun z => ?_⟩
    · obtain ⟨i, rfl, _, hi⟩ := num_of z (by decide)
      refine ⟨iV i, rfl, .ref lf, rfl, 1, rfl, lf, ss, _, .ref t, rfl, rfl, SqT.of hss, atI_last (by omega) (by rw [hl]; exact hvl), t, _, _, iV sl.1, rfl, rfl, SqT.of g1, atI_nat (j := 0) rfl, _, _, rfl, rfl, _, rfl, ite2 (fun y => ?_) (fun y => ?_)⟩
      · have y' := of_decide_eq_true y
        refine q2 ?_
        rw [isNum_nat, decide_eq_false (show ¬ ((i : Nat) : Int) ≤ (lastOf L : Nat) by omega), Bool.and_false]
      · have y' : ¬ ((sl.1 : Nat) : Int) < ((i : Nat) : Int) := fun x => y (decide_eq_true x)
        refine q1 ?_
        rw [isNum_nat, decide_eq_true (show (0 : Int) ≤ ((i : Nat) : Int) by omega), decide_eq_true (show ((i : Nat) : Int) ≤ (lastOf L : Nat) by omega)]
        rfl
    · refine q2 ?_
      cases v with
      | int i =>
        have z' : (decide (0 ≤ i) && decide (i ≤ (d : Int) - 1)) = false := z
        show (decide (0 ≤ i) && decide (i ≤ ((lastOf L : Nat) : Int))) = false
        by_cases c1 : 0 ≤ i
        · rw [decide_eq_true c1, Bool.true_and] at z' ⊢
          have := of_decide_eq_false z'
          exact decide_eq_false (by omega)
        · rw [decide_eq_false c1, Bool.false_and]
      | _ => rfl
end
end K04

set_option maxHeartbeats 4000000
namespace K04
open PySem PySem.Spec PyProof.Rows L2 Hd Evl
/-! ### what is read behind a life -/
def optP : Option (Nat × Nat) → PyData
  | some x => pairP x
  | none => .none
theorem knv_opt {H : Hp} {x : Option (Nat × Nat)} {o : Option V} (h : KnV H x o) : Tv H (o.getD .non) (optP x) := by
  cases x with
  | none =>
    cases o with
    | none => exact .non
    | some v => exact h.elim
  | some x =>
    cases o with
    | none => exact h.elim
    | some v => exact h
/-- what a run is of -/
structure InP (hs lf cf : Addr) (n k d p c : Nat) (L : LifeT) (cs : List Nat) (Pt : Addr) (H : Hp) : Prop where
  hh : HouseAt H hs n k d p c
  tv : Tv H (.ref lf) (lifeP L)
  ok : RunL d p L
  ne : L ≠ []
  hcf : H cf = some (.tup (cs.map iV))
  cl : cs.length = lenT L
  co : ∀ x ∈ cs, x < nck n k
  tb : GxR.TabG H Pt
theorem InP.sets {hs lf cf : Addr} {n k d p c : Nat} {L : LifeT} {cs : List Nat} {Pt : Addr} {H : Hp} (I : InP hs lf cf n k d p c L cs Pt H) : SetsOk n (lenT L) (setOf n k cs) := fun j hj => by
  have hj' : j < cs.length := I.cl ▸ hj
  have hx : cs.getD j 0 < nck n k := by
    rw [List.getD_eq_getElem?_getD, List.getElem?_eq_getElem hj']
    exact I.co _ (List.getElem_mem hj')
  obtain ⟨a1, a2, a3⟩ := draw_ok hx
  exact ⟨a1, a2, by unfold setOf; rw [a3]; exact I.hh.kn⟩
theorem InP.rn {hs lf cf : Addr} {n k d p c : Nat} {L : LifeT} {cs : List Nat} {Pt : Addr} {H : Hp} (I : InP hs lf cf n k d p c L cs Pt H) (w : Way) : Rn n p (lastOf L) (lenT L) (runT n w p c (setOf n k cs) L) := runT_rn I.hh.d4 I.hh.p6 I.hh.n12 I.hh.c3 I.hh.c1 I.ok I.ne I.sets
theorem InP.ks {K : PySem.W.Frag} {hs lf cf : Addr} {n k d p c : Nat} {L : LifeT} {cs : List Nat} {Pt : Addr} {H H1 : Hp} (I : InP hs lf cf n k d p c L cs Pt H) (e : Ks K H H1) : InP hs lf cf n k d p c L cs Pt H1 := { I with hh := I.hh.ks e, tv := I.tv.mv (ks_kt e), hcf := e.t _ _ I.hcf, tb := e.g _ I.tb }
section
variable {CX : CXT} {P : Program} {w : World} {K : PySem.W.Frag} {mg : Str → Option Value} {base : Heap} {C : Addr} {cs : Cs} {tb : Tb}
/-- the runs' own checks and the run -/
structure Rc (P : Program) (w : World) (K : PySem.W.Frag) (mg : Str → Option Value) (base : Heap) (ca : Addr) (cs : Cs) (tb : Tb) : Type extends Ch P w K mg base cs tb where
  X : StX P w K mg base ca tb.o
  fR : Addr
  dR : FuncData
  R : Fn P w K mg base (L2.CX P w) 10 "check_run" ["house", "way", "life", "coins"] (sp_check_run K cs tb) fR dR
  fK : Addr
  dK : FuncData
  Ky : Fn P w K mg base (L2.CX P w) 4 "check_key" ["house", "life", "drawer"] (spKey K cs.D) fK dK
  fU : Addr
  dU : FuncData
  U : Fn P w K mg base (L2.CX P w) 5 "run" ["house", "way", "life", "coins"] (spRun K ca tb.o) fU dU
/-! #### read -/
structure ReadP (K : PySem.W.Frag) (C Pt : Addr) (vs : List V) (H : Hp) (Q : VK) : Prop where
  go : ∃ (hs lf cf : Addr) (n k d p c : Nat) (w : Way) (L : LifeT) (cs : List Nat) (dr pg : Nat), vs = [.ref hs, .str (wayS w), .ref lf, .ref cf, iV dr, iV pg] ∧ InP hs lf cf n k d p c L cs Pt H ∧
  ∀ v H', Tv H' v (optP ((runT n w p c (setOf n k cs) L).1.known dr pg)) → Ks K H H' → Q v H'
def sp_read (K : PySem.W.Frag) (C : Addr) (cs : Cs) (tb : Tb) : Sp := fun vs H Q E => ∃ v0 v1 v2 v3 v4 v5, vs = [v0, v1, v2, v3, v4, v5] ∧ sp_check_run K cs tb [v0, v1, v2, v3] H (fun _ H1 => spKey K cs.D [v0, v2, v4] H1 (fun _ H2 => spChk K (fun _ p => p) cs.P [v0, v5] H2 (fun _ H3 => ReadP K C tb.o vs H3 Q) E) E) E
theorem ok_read {f : Addr} {fd : FuncData} (F : FnP K "read" s_read f fd) (c : Rc P w K mg base C cs tb) : FnOk P w K mg base (L2.CX P w) 11 f fd ["house", "way", "life", "coins", "drawer", "page"] (sp_read K C cs tb) := by
  refine F.ok (CX := L2.CX P w) sc_read (fun vs H Q E h => ?_) (fun cdv A outer s H vs Q E hr h => ?_)
  · obtain ⟨v0, v1, v2, v3, v4, v5, rfl, _⟩ := h
    rfl
  · obtain ⟨v0, v1, v2, v3, v4, v5, rfl, h⟩ := h
    have hu := hu_of hr
    refine ⟨_, (pss_cons (ps_expr (pe_call c.R.G hr (by rfl) c.R.m c.R.k c.R.b .nil (passX (E := E) rfl rfl rfl rfl) (pa_cons (pv 0) (pa_cons (pv 1) (pa_cons (pv 2) (pa_cons (pv 3) pa_nil))))))
      (pss_cons (ps_expr (pe_call c.Ky.G (hr.mono (by decide)) (by rfl) c.Ky.m c.Ky.k c.Ky.b .nil (passX (E := E) rfl rfl rfl rfl) (pa_cons (pv 0) (pa_cons (pv 2) (pa_cons (pv 4) pa_nil)))))
      (pss_cons (ps_expr (pe_call c.G.G (hr.mono (by decide)) (by rfl) c.G.m c.G.k c.G.b .nil (passX (E := E) rfl rfl rfl rfl) (pa_cons (pv 0) (pa_cons (pv 5) pa_nil))))
      (pss_cons (ps_asg (pe_call c.U.G (hr.mono (by decide)) (by rfl) c.U.m c.U.k c.U.b .nil (passX (E := E) rfl rfl rfl rfl) (pa_cons (pv 0) (pa_cons (pv 1) (pa_cons (pv 2) (pa_cons (pv 3) pa_nil))))) (pg_tup rfl (pgs_cons (pg_name (i := 6) sc_read.nd rfl (Or.inl rfl)) (pgs_cons (pg_name (i := 7) sc_read.nd rfl (Or.inl rfl)) pgs_nil))))
      (pss_one (ps_ret (pe_dget1 hu (pe_fld (pv 6) rfl) (pe_tup (pa_cons (pv 4) (pa_cons (pv 5) pa_nil))) ⟨rfl, rfl, rfl, rfl⟩))))))), ?_⟩
    refine ⟨v0, rfl, v1, rfl, v2, rfl, v3, rfl, ?_⟩
    dsimp only [tNil, tCall, List.append_nil]
    refine mono_check_run h (fun _ H1 h1 => ?_)
    refine ⟨v0, rfl, v2, rfl, v4, rfl, ?_⟩
    dsimp only [tNil, tCall, List.append_nil]
    refine mono_key h1 (fun _ H2 h2 => ?_)
    refine ⟨v0, rfl, v5, rfl, ?_⟩
    dsimp only [tNil, tCall, List.append_nil]
    refine mono_chk h2 (fun _ H3 h3 => ?_)
    obtain ⟨hs, lf, cf, n, k, d, p, cc, w, L, csn, dr, pg, e, I, q⟩ := h3
    cases e
    refine ⟨.ref hs, rfl, .str (wayS w), rfl, .ref lf, rfl, .ref cf, rfl, hs, lf, cf, n, k, d, p, cc, w, L, csn, rfl, I.hh, I.tv, I.ok, I.hcf, I.cl, I.co, I.tb, fun t a D H4 ht R => ?_⟩
    obtain ⟨q1, nn, hv, R1, bn, e1, e2, e3, gD, tvh, fr, nD⟩ := R.go
    refine ⟨t, _, rfl, SqT.of ht, rfl, _, _, rfl, _, _, rfl, rfl, ?_⟩
    refine ⟨.ref a, rfl, a, C, q1.dx, _, _, rfl, R1.ob, c.X.T.cl, c.X.T.known, st_known, q1.k, rfl, R1.kn.is, iV dr, rfl, iV pg, rfl, by show 2 ≤ sizeLine; decide, fun b nb => ?_⟩
    have eb := Ex.new (o := HO.tup [iV dr, iV pg]) nb
    obtain ⟨o, dg, kv⟩ := (R1.kn.ex eb).get (b := b) upd_same
    exact ⟨o, dg, q _ _ (knv_opt kv) (R.ks.trans (Ks.ex eb))⟩
/-! #### waiting -/
structure WaitP (K : PySem.W.Frag) (Pt : Addr) (vs : List V) (H : Hp) (Q : VK) : Prop where
  go : ∃ (hs lf cf : Addr) (n k d p c : Nat) (w : Way) (L : LifeT) (cs : List Nat) (dr : Nat), vs = [.ref hs, .str (wayS w), .ref lf, .ref cf, iV dr] ∧ InP hs lf cf n k d p c L cs Pt H ∧ dr ≤ lastOf L ∧
  ∀ v H', Tv H' v (.tuple (((runT n w p c (setOf n k cs) L).1.rows.getD dr []).map intP)) → Ks K H H' → Q v H'
def sp_waiting (K : PySem.W.Frag) (cs : Cs) (tb : Tb) : Sp := fun vs H Q E => ∃ v0 v1 v2 v3 v4, vs = [v0, v1, v2, v3, v4] ∧ sp_check_run K cs tb [v0, v1, v2, v3] H (fun _ H1 => spKey K cs.D [v0, v2, v4] H1 (fun _ H2 => WaitP K tb.o vs H2 Q) E) E
theorem ok_waiting {f : Addr} {fd : FuncData} (F : FnP K "waiting" s_waiting f fd) (B : Blt mg) (c : Rc P w K mg base C cs tb) : FnOk P w K mg base (L2.CX P w) 11 f fd ["house", "way", "life", "coins", "drawer"] (sp_waiting K cs tb) := by
  refine F.ok (CX := L2.CX P w) sc_waiting (fun vs H Q E h => ?_) (fun cdv A outer s H vs Q E hr h => ?_)
  · obtain ⟨v0, v1, v2, v3, v4, rfl, _⟩ := h
    rfl
  · obtain ⟨v0, v1, v2, v3, v4, rfl, h⟩ := h
    refine ⟨_, (pss_cons (ps_expr (pe_call c.R.G hr (by rfl) c.R.m c.R.k c.R.b .nil (passX (E := E) rfl rfl rfl rfl) (pa_cons (pv 0) (pa_cons (pv 1) (pa_cons (pv 2) (pa_cons (pv 3) pa_nil))))))
      (pss_cons (ps_expr (pe_call c.Ky.G (hr.mono (by decide)) (by rfl) c.Ky.m c.Ky.k c.Ky.b .nil (passX (E := E) rfl rfl rfl rfl) (pa_cons (pv 0) (pa_cons (pv 2) (pa_cons (pv 4) pa_nil)))))
      (pss_cons (ps_asg (pe_call c.U.G (hr.mono (by decide)) (by rfl) c.U.m c.U.k c.U.b .nil (passX (E := E) rfl rfl rfl rfl) (pa_cons (pv 0) (pa_cons (pv 1) (pa_cons (pv 2) (pa_cons (pv 3) pa_nil))))) (pg_tup rfl (pgs_cons (pg_name (i := 5) sc_waiting.nd rfl (Or.inl rfl)) (pgs_cons (pg_name (i := 6) sc_waiting.nd rfl (Or.inl rfl)) pgs_nil))))
      (pss_one (ps_ret (pe_callTy call_tuple_of (by rfl) B.tuple (by decide +kernel) (pa_cons (pe_ix ix_list (pe_fld (pv 5) rfl) (pv 4) (fun _ _ => rfl)) pa_nil))))))), ?_⟩
    refine ⟨v0, rfl, v1, rfl, v2, rfl, v3, rfl, ?_⟩
    dsimp only [tNil, tCall, List.append_nil]
    refine mono_check_run h (fun _ H1 h1 => ?_)
    refine ⟨v0, rfl, v2, rfl, v4, rfl, ?_⟩
    dsimp only [tNil, tCall, List.append_nil]
    refine mono_key h1 (fun _ H2 h2 => ?_)
    obtain ⟨hs, lf, cf, n, k, d, p, cc, w, L, csn, dr, e, I, hd, q⟩ := h2
    cases e
    refine ⟨.ref hs, rfl, .str (wayS w), rfl, .ref lf, rfl, .ref cf, rfl, hs, lf, cf, n, k, d, p, cc, w, L, csn, rfl, I.hh, I.tv, I.ok, I.hcf, I.cl, I.co, I.tb, fun t a D H4 ht R => ?_⟩
    have G := (I.rn w).good
    obtain ⟨q1, nn, hv, R1, bn, e1, e2, e3, gD, tvh, fr, nD⟩ := R.go
    have hdl : dr < (runT n w p cc (setOf n k csn) L).1.rows.length := by rw [G.len]; omega
    obtain ⟨row, hrow⟩ : ∃ row, (runT n w p cc (setOf n k csn) L).1.rows[dr]? = some row := ⟨_, List.getElem?_eq_getElem hdl⟩
    obtain ⟨rb, hrb, hrh⟩ := paired_get2 R1.ro hrow
    refine ⟨t, _, rfl, SqT.of ht, rfl, _, _, rfl, _, _, rfl, rfl, ?_⟩
    refine ⟨.ref a, rfl, a, C, q1.dx, _, _, rfl, R1.ob, c.X.T.cl, c.X.T.rows, st_rows, iV dr, rfl, q1.r, _, _, .ref rb, rfl, rfl, SqL.of R1.rw, atI_nat (by rw [List.getElem?_map, hrb] <;> rfl), rb, _, rfl, .inl ⟨SqL.of hrh, fun b nb => ?_⟩⟩
    refine q _ _ ?_ (R.ks.trans (Ks.ex (Ex.new nb)))
    rw [List.getD_eq_getElem?_getD, hrow]
    exact .tup upd_same (tvInts row)
/-! #### found_later -/
structure LaterP (K : PySem.W.Frag) (Pt : Addr) (vs : List V) (H : Hp) (Q : VK) : Prop where
  go : ∃ (hs lf cf : Addr) (n k d p c : Nat) (w : Way) (L : LifeT) (cs : List Nat) (dr pg : Nat), vs = [.ref hs, .str (wayS w), .ref lf, .ref cf, iV dr, iV pg] ∧ InP hs lf cf n k d p c L cs Pt H ∧
  ∀ v H', Tv H' v (optP (knownOf (d - 1) (runT n w p c (setOf n k cs) L).1.cells dr pg)) → Ks K H H' → Q v H'
def sp_later (K : PySem.W.Frag) (cs : Cs) (tb : Tb) : Sp := fun vs H Q E => ∃ v0 v1 v2 v3 v4 v5, vs = [v0, v1, v2, v3, v4, v5] ∧ sp_check_run K cs tb [v0, v1, v2, v3] H (fun _ H1 => spChk K (fun d _ => d) cs.D [v0, v4] H1 (fun _ H2 => spChk K (fun _ p => p) cs.P [v0, v5] H2 (fun _ H3 => LaterP K tb.o vs H3 Q) E) E) E
theorem ok_later {f : Addr} {fd : FuncData} (F : FnP K "found_later" s_found_later f fd) (c : Rc P w K mg base C cs tb) : FnOk P w K mg base (L2.CX P w) 11 f fd ["house", "way", "life", "coins", "drawer", "page"] (sp_later K cs tb) := by
  refine F.ok (CX := L2.CX P w) sc_found_later (fun vs H Q E h => ?_) (fun cdv A outer s H vs Q E hr h => ?_)
  · obtain ⟨v0, v1, v2, v3, v4, v5, rfl, _⟩ := h
    rfl
  · obtain ⟨v0, v1, v2, v3, v4, v5, rfl, h⟩ := h
    have hu := hu_of hr
    refine ⟨_, (pss_cons (ps_expr (pe_call c.R.G hr (by rfl) c.R.m c.R.k c.R.b .nil (passX (E := E) rfl rfl rfl rfl) (pa_cons (pv 0) (pa_cons (pv 1) (pa_cons (pv 2) (pa_cons (pv 3) pa_nil))))))
      (pss_cons (ps_expr (pe_call c.D.G (hr.mono (by decide)) (by rfl) c.D.m c.D.k c.D.b .nil (passX (E := E) rfl rfl rfl rfl) (pa_cons (pv 0) (pa_cons (pv 4) pa_nil))))
      (pss_cons (ps_expr (pe_call c.G.G (hr.mono (by decide)) (by rfl) c.G.m c.G.k c.G.b .nil (passX (E := E) rfl rfl rfl rfl) (pa_cons (pv 0) (pa_cons (pv 5) pa_nil))))
      (pss_cons (ps_asg (pe_call c.U.G (hr.mono (by decide)) (by rfl) c.U.m c.U.k c.U.b .nil (passX (E := E) rfl rfl rfl rfl) (pa_cons (pv 0) (pa_cons (pv 1) (pa_cons (pv 2) (pa_cons (pv 3) pa_nil))))) (pg_tup rfl (pgs_cons (pg_name (i := 6) sc_found_later.nd rfl (Or.inl rfl)) (pgs_cons (pg_name (i := 7) sc_found_later.nd rfl (Or.inl rfl)) pgs_nil))))
      (pss_cons (ps_expr (pe_meth (pv 6) c.X.T.cl c.X.G.m c.X.G.G (hr.mono (by decide)) c.X.G.b .nil pass0 (pa_cons (pe_op op_sub (pe_ix ix_tup (pv 0) pe_int (fun _ _ => rfl)) pe_int) pa_nil)))
      (pss_one (ps_ret (pe_dget1 hu (pe_fld (pv 6) rfl) (pe_tup (pa_cons (pv 4) (pa_cons (pv 5) pa_nil))) ⟨rfl, rfl, rfl, rfl⟩)))))))), ?_⟩
    refine ⟨v0, rfl, v1, rfl, v2, rfl, v3, rfl, ?_⟩
    dsimp only [tNil, tCall, List.append_nil]
    refine mono_check_run h (fun _ H1 h1 => ?_)
    refine ⟨v0, rfl, v4, rfl, ?_⟩
    dsimp only [tNil, tCall, List.append_nil]
    refine mono_chk h1 (fun _ H2 h2 => ?_)
    refine ⟨v0, rfl, v5, rfl, ?_⟩
    dsimp only [tNil, tCall, List.append_nil]
    refine mono_chk h2 (fun _ H3 h3 => ?_)
    obtain ⟨hs, lf, cf, n, k, d, p, cc, w, L, csn, dr, pg, e, I, q⟩ := h3
    cases e
    refine ⟨.ref hs, rfl, .str (wayS w), rfl, .ref lf, rfl, .ref cf, rfl, hs, lf, cf, n, k, d, p, cc, w, L, csn, rfl, I.hh, I.tv, I.ok, I.hcf, I.cl, I.co, I.tb, fun t a D H4 ht R => ?_⟩
    have Rn := I.rn w
    obtain ⟨q1, nn, hv, R1, bn, e1, e2, e3, gD, tvh, fr, nD⟩ := R.go
    have hh4 := I.hh.ks R.ks
    have d1 := I.hh.d1
    have d4 := I.hh.d4
    have n12 := I.hh.n12
    have p6 := I.hh.p6
    have c3 := I.hh.c3
    refine ⟨t, _, rfl, SqT.of ht, rfl, _, _, rfl, _, _, rfl, rfl, ?_⟩
    refine ⟨.ref a, rfl, a, q1.dx, _, rfl, R1.ob, rfl, .ref hs, rfl, hs, _, _, .int d, rfl, rfl, SqT.of hh4.at_, atI_nat (j := 2) rfl, _, _, rfl, rfl, a, q1, _, nn, d - 1, ?_, R1, ⟨?_, by omega, by omega⟩, by omega, fun k2 r2 rs2 G R2 nk nr nrs kx => ?_⟩
    · show [V.ref a, V.int ((d : Int) - 1)] = [V.ref a, iV (d - 1)]
      rw [show ((d : Nat) : Int) - 1 = ((d - 1 : Nat) : Int) by omega]
    · rw [Rn.cells]
      omega
    · refine ⟨.ref a, rfl, a, C, q1.dx, _, _, rfl, R2.ob, c.X.T.cl, c.X.T.known, st_known, k2, rfl, R2.kn.is, iV dr, rfl, iV pg, rfl, by show 2 ≤ sizeLine; decide, fun b nb => ?_⟩
      have eb := Ex.new (o := HO.tup [iV dr, iV pg]) nb
      obtain ⟨o, dg, kv⟩ := (R2.kn.ex eb).get (b := b) upd_same
      refine ⟨o, dg, q _ _ (knv_opt kv) ((R.ks.thenX kx fun b e => e ▸ fr a (.inl rfl)).trans (Ks.ex eb))⟩
/-! #### places -/
def placesT (kn : KnownT) (cs : CellsT) (dr m : Nat) : List (Nat × Nat) := ((List.range m).filter fun c => liveAt kn cs c && decide ((heldAt cs c).1 = dr)).map fun c => ((heldAt cs c).2.1, c)
structure PlacesP (K : PySem.W.Frag) (Pt : Addr) (vs : List V) (H : Hp) (Q : VK) : Prop where
  go : ∃ (hs lf cf : Addr) (n k d p c : Nat) (w : Way) (L : LifeT) (cs : List Nat) (dr : Nat), vs = [.ref hs, .str (wayS w), .ref lf, .ref cf, iV dr] ∧ InP hs lf cf n k d p c L cs Pt H ∧
  ∀ v H' (l : List (Nat × Nat)), Tv H' v (.tuple (l.map pairP)) → l.Perm (placesT (runT n w p c (setOf n k cs) L).1.known (runT n w p c (setOf n k cs) L).1.cells dr n) → l.Pairwise ple → Ks K H H' → Q v H'
def sp_places (K : PySem.W.Frag) (cs : Cs) (tb : Tb) : Sp := fun vs H Q E => ∃ v0 v1 v2 v3 v4, vs = [v0, v1, v2, v3, v4] ∧ sp_check_run K cs tb [v0, v1, v2, v3] H (fun _ H1 => spKey K cs.D [v0, v2, v4] H1 (fun _ H2 => PlacesP K tb.o vs H2 Q) E) E
theorem ok_places {f : Addr} {fd : FuncData} (F : FnP K "places" s_places f fd) (B : Blt mg) (hsort : mg "sorted" = none) (c : Rc P w K mg base C cs tb) : FnOk P w K mg base (L2.CX P w) 11 f fd ["house", "way", "life", "coins", "drawer"] (sp_places K cs tb) := by
  refine F.ok (CX := L2.CX P w) sc_places (fun vs H Q E h => ?_) (fun cdv A outer s H vs Q E hr h => ?_)
  · obtain ⟨v0, v1, v2, v3, v4, rfl, _⟩ := h
    rfl
  · obtain ⟨v0, v1, v2, v3, v4, rfl, h⟩ := h
    refine ⟨_, (pss_cons (ps_expr (pe_call c.R.G hr (by rfl) c.R.m c.R.k c.R.b .nil (passX (E := E) rfl rfl rfl rfl) (pa_cons (pv 0) (pa_cons (pv 1) (pa_cons (pv 2) (pa_cons (pv 3) pa_nil))))))
      (pss_cons (ps_expr (pe_call c.Ky.G (hr.mono (by decide)) (by rfl) c.Ky.m c.Ky.k c.Ky.b .nil (passX (E := E) rfl rfl rfl rfl) (pa_cons (pv 0) (pa_cons (pv 2) (pa_cons (pv 4) pa_nil)))))
      (pss_cons (ps_asg (pe_call c.U.G (hr.mono (by decide)) (by rfl) c.U.m c.U.k c.U.b .nil (passX (E := E) rfl rfl rfl rfl) (pa_cons (pv 0) (pa_cons (pv 1) (pa_cons (pv 2) (pa_cons (pv 3) pa_nil))))) (pg_tup rfl (pgs_cons (pg_name (i := 5) sc_places.nd rfl (Or.inl rfl)) (pgs_cons (pg_name (i := 6) sc_places.nd rfl (Or.inl rfl)) pgs_nil))))
      (pss_cons (ps_set (i := 7) sc_places.nd rfl (Or.inl rfl) (pe_lst pa_nil))
      (pss_cons (ps_for (passes_of rfl) rfl (pi_enum (by rfl) B.enumerate (pa_cons (pe_fld (pv 5) rfl) pa_nil)) (pg_tup rfl (pgs_cons (pg_name (i := 8) sc_places.nd rfl (Or.inl rfl)) (pgs_cons (pg_name (i := 9) sc_places.nd rfl (Or.inl rfl)) pgs_nil)))
        (pss_one (ps_if (PW.pt (pw_and (pt_val (pe_meth (pv 5) c.X.T.cl c.X.L.m c.X.L.G (hr.mono (by decide)) c.X.L.b .nil pass0 (pa_cons (pv 8) pa_nil))) (pw_and1 (pt_cmpR op_eq (pe_ix ix_tup (pv 9) pe_int (fun _ _ => rfl)) (pv 4) (nomark _)))))
          (pss_one (ps_expr (pe_bm PySem.F.plainAttrs_list PySem.F.slot_list_append PySem.F.type_list_append mt_append (pv 7) (pa_cons (pe_tup (pa_cons (pe_ix ix_tup (pv 9) pe_int (fun _ _ => rfl)) (pa_cons (pv 8) pa_nil))) pa_nil)))) pss_nil)))
      (pss_one (ps_ret (pe_callTy call_tuple_of (by rfl) B.tuple (by decide +kernel) (pa_cons (pe_callB (cr_sortT (d := 2) (B := 64) (by decide)) (by rfl) hsort (by decide +kernel) (pa_cons (pv 7) pa_nil)) pa_nil))))))))), ?_⟩
    refine ⟨v0, rfl, v1, rfl, v2, rfl, v3, rfl, ?_⟩
    dsimp only [tNil, tCall, List.append_nil]
    refine mono_check_run h (fun _ H1 h1 => ?_)
    refine ⟨v0, rfl, v2, rfl, v4, rfl, ?_⟩
    dsimp only [tNil, tCall, List.append_nil]
    refine mono_key h1 (fun _ H2 h2 => ?_)
    obtain ⟨hs, lf, cf, n, k, d, p, cc, w, L, csn, dr, e, I, q⟩ := h2
    cases e
    refine ⟨.ref hs, rfl, .str (wayS w), rfl, .ref lf, rfl, .ref cf, rfl, hs, lf, cf, n, k, d, p, cc, w, L, csn, rfl, I.hh, I.tv, I.ok, I.hcf, I.cl, I.co, I.tb, fun t a D H4 ht R => ?_⟩
    have Rn := I.rn w
    have n12 := I.hh.n12
    have p6 := I.hh.p6
    obtain ⟨q1, nn, hv, R1, bn, e1, e2, e3, gD, tvh, fr, nD⟩ := R.go
    generalize hS : (runT n w p cc (setOf n k csn) L) = S at q R R1 Rn tvh
    refine ⟨t, _, rfl, SqT.of ht, rfl, _, _, rfl, _, _, rfl, rfl, Nat.zero_le _, fun Fd nF => ?_⟩
    have eF := Ex.new (o := HO.lst []) nF
    have RF := R1.ex eF
    obtain ⟨vs, hcs, tv⟩ := RF.cs
    have hvl : vs.length = n := by rw [tv.len, List.length_map, Rn.cells]
    refine ⟨.ref a, rfl, a, C, q1.dx, _, _, rfl, RF.ob, c.X.T.cl, c.X.T.cells, st_cells, q1.c, vs, rfl, SqL.of hcs, ?_⟩
    refine for_it walk_enum (fun i σ G => ∃ y8 y9 ws, σ = [some (.ref hs), some (.str (wayS w)), some (.ref lf), some (.ref cf), some (iV dr), some (.ref a), some (.ref D), some (.ref Fd), y8, y9] ∧ G Fd = some (.lst ws) ∧ TvAll G ws ((placesT S.1.known S.1.cells dr i).map pairP) ∧ Kx (· = Fd) H4 G)
      ⟨none, none, [], rfl, upd_same, .nil, Kx.put rfl⟩ (fun i σ G _ w => by
        obtain ⟨_, _, _, _, _, _, kx⟩ := w
        have := kx.toEx (fun b e => e ▸ nF)
        obtain ⟨vs', g1, _⟩ := R1.cs
        have g2 := eF _ _ g1
        rw [hcs] at g2
        cases g2
        exact SqL.of (this _ _ g1)) (fun i x σ G G' hi w y => ?_) (fun σ G w => ?_)
    · obtain ⟨y8, y9, ws, rfl, gF, tvw, kx⟩ := w
      obtain ⟨T1, x1, y1, rfl, nT, rfl, ex1, ey1⟩ := y
      obtain rfl : V.int (i : Nat) = x1 := Option.some.inj ex1
      have eG := kx.toEx (fun b e => e ▸ nF)
      have en := Ex.new (o := HO.tup [V.int (i : Nat), y1]) nT
      have e4 := eG.trans en
      have ic : i < S.1.cells.length := by rw [Rn.cells]; omega
      obtain ⟨vs4, hcs4, tv4⟩ := (R1.ex e4).cs
      obtain ⟨vs', g1, tv'⟩ := R1.cs
      have g2 := eF _ _ g1
      rw [hcs] at g2
      cases g2
      obtain ⟨v, hv1, tvv⟩ := tvAtD tv' (List.getElem?_eq_getElem ic)
      obtain rfl : v = y1 := Option.some.inj (hv1.symm.trans ey1)
      have eD : S.1.cells.getD i none = S.1.cells[i] := by rw [List.getD_eq_getElem?_getD, List.getElem?_eq_getElem ic]; rfl
      have tk : placesT S.1.known S.1.cells dr (i + 1) = placesT S.1.known S.1.cells dr i ++ (if (liveAt S.1.known S.1.cells i && decide ((heldAt S.1.cells i).1 = dr)) = true then [((heldAt S.1.cells i).2.1, i)] else []) := by
        unfold placesT
        rw [List.range_succ, List.filter_append, List.map_append, List.filter_cons]
        split <;> rfl
      refine ⟨T1, _, rfl, SqT.of upd_same, rfl, _, _, rfl, _, _, rfl, rfl, ?_⟩
      refine ⟨.ref a, rfl, a, q1.dx, _, rfl, (R1.ex e4).ob, rfl, iV i, rfl, a, q1, S.1.cells, S.1.known, nn, i, rfl, (R1.ex e4).lk, ic, fun H3 e3 => ⟨_, rfl, ?_⟩⟩
      have kx3 : Kx (· = Fd) H4 H3 := (kx.trans (Kx.ex en)).trans (Kx.ex e3)
      have gF3 := e3 _ _ (en _ _ gF)
      have tvw3 := (tvw.mv (Kt.ex en)).mv (Kt.ex e3)
      refine ite2 (fun lv => ?_) (fun lv => ?_)
      · rw [lv, Bool.true_and] at tk
        cases eo : S.1.cells[i] with
        | none =>
          exfalso
          unfold liveAt at lv
          rw [eD, eo] at lv
          cases lv
        | some h =>
          rw [eo] at tvv
          have hat : heldAt S.1.cells i = h := by
            unfold heldAt
            rw [eD, eo]
            rfl
          rw [hat] at tk
          obtain ⟨t5, rfl, ht5⟩ := tvHeld (tvv.mv (Kt.ex (e4.trans e3)))
          refine ⟨.ref t5, rfl, t5, _, _, iV h.1, rfl, rfl, SqT.of ht5, atI_nat (j := 0) rfl, iV dr, rfl, rfl, _, rfl, ite2 (fun cd => ?_) (fun cd => ?_)⟩
          · have hd : h.1 = dr := by have := of_decide_eq_true cd; injection this with this; exact Int.ofNat.inj this
            rw [if_pos (decide_eq_true hd)] at tk
            refine ⟨.ref Fd, rfl, .inl ⟨rfl, _, SqL.of gF3⟩, .ref t5, rfl, t5, _, _, iV h.2.1, rfl, rfl, SqT.of ht5, atI_nat (j := 1) rfl, iV i, rfl, by show 2 ≤ sizeLine; decide, fun b nb => ?_⟩
            have eb := Ex.new (o := HO.tup [iV h.2.1, iV i]) nb
            have gFb := eb _ _ gF3
            refine ⟨Fd, ws, .ref b, rfl, rfl, gFb, ?_, ?_⟩
            · rw [tvw.len, List.length_map]
              unfold placesT
              rw [List.length_map]
              refine Nat.lt_of_le_of_lt (List.length_filter_le _ _) ?_
              rw [List.length_range]
              exact Nat.lt_of_lt_of_le hi (by rw [hvl]; exact Nat.le_trans n12 (by decide))
            · refine ⟨_, _, ws ++ [.ref b], rfl, upd_same, ?_, (kx3.trans (Kx.ex eb)).trans (Kx.put rfl)⟩
              rw [tk, List.map_append]
              exact TvAll.mv ((tvw3.mv (Kt.ex eb)).app (.cons (ofPair (a := h.2.1) (b := i) upd_same) .nil)) (Kt.put gFb)
          · have hd : ¬ h.1 = dr := fun e => cd (decide_eq_true (by rw [e]))
            rw [if_neg (by simpa using hd), List.append_nil] at tk
            exact ⟨_, _, ws, rfl, gF3, by rw [tk]; exact tvw3, kx3⟩
      · rw [Bool.not_eq_true] at lv
        rw [lv, Bool.false_and, if_neg (by decide), List.append_nil] at tk
        exact iteF ⟨_, _, ws, rfl, gF3, by rw [tk]; exact tvw3, kx3⟩
    · obtain ⟨y8, y9, ws, rfl, gF, tvw, kx⟩ := w
      rw [hvl] at tvw
      have eG := kx.toEx (fun b e => e ▸ nF)
      have bd : ∀ x ∈ placesT S.1.known S.1.cells dr n, x.1 < 64 ∧ x.2 < 64 := fun x hx => by
        unfold placesT at hx
        obtain ⟨i, hi, rfl⟩ := List.mem_map.mp hx
        obtain ⟨h1, h2⟩ := List.mem_filter.mp hi
        rw [Bool.and_eq_true] at h2
        have h3 := List.mem_range.mp h1
        refine ⟨?_, by show i < 64; omega⟩
        have hl := h2.1
        unfold liveAt liveB at hl
        have hlen : i < S.1.cells.length := by rw [Rn.cells]; exact h3
        have eD : S.1.cells.getD i none = S.1.cells[i] := by rw [List.getD_eq_getElem?_getD, List.getElem?_eq_getElem hlen]; rfl
        show (heldAt S.1.cells i).2.1 < 64
        unfold heldAt
        rw [eD]
        cases eo : S.1.cells[i] with
        | none =>
          show 0 < 64
          decide
        | some g =>
          have := Rn.good.pg g (eo ▸ List.getElem_mem hlen)
          show g.2.1 < 64
          omega
      have wl : ws.length < 64 := by
        rw [tvw.len, List.length_map]
        unfold placesT
        rw [List.length_map]
        refine Nat.lt_of_le_of_lt (List.length_filter_le _ _) ?_
        rw [List.length_range]
        omega
      refine ⟨.ref Fd, rfl, Fd, ws, rfl, SqL.of gF, wl, sort_in tvw bd, fun ys b pm pw nb => ?_⟩
      obtain ⟨l, tvl, lp, ls⟩ := sort_out tvw bd pm pw
      have eb := Ex.new (o := HO.lst ys) nb
      refine ⟨b, ys, rfl, .inl ⟨SqL.of upd_same, fun b2 nb2 => ?_⟩⟩
      have eb2 := Ex.new (o := HO.tup ys) nb2
      exact q _ _ l (.tup upd_same ((tvl.mv (Kt.ex eb)).mv (Kt.ex eb2))) lp ls (R.ks.trans (Ks.ex ((eG.trans eb).trans eb2)))
end
end K04

set_option maxHeartbeats 4000000
namespace K04
open PySem PySem.Spec PyProof.Rows L2 Hd Evl
/-! ### cells as a holder of some keys sees them -/
theorem open_snoc {u : Nat} {cs : CellsT} {i : Nat} {o : Option Held} (h : cs[i]? = some o) : (openC u (cs.take (i + 1))).map cellP = (openC u (cs.take i)).map cellP ++ [cellP (o.filter fun h => decide (h.1 ≤ u))] := by
  unfold openC
  rw [takeSnoc h, List.map_append, List.map_append] <;> rfl
section
variable {CX : CXT} {P : Program} {w : World} {K : PySem.W.Frag} {mg : Str → Option Value} {base : Heap}
def spOpen (K : PySem.W.Frag) (Pt : Addr) : Sp := fun vs H Q _ => ∃ (t : Addr) (xs : List V) (cs : CellsT) (u : Nat), vs = [.ref t, iV u] ∧ H t = some (.tup xs) ∧ TvAll H xs (cs.map cellP) ∧ cs.length ≤ 1000 ∧ GxR.TabG H Pt ∧ ∀ (t' : Addr) (ys : List V) H', H' t' = some (.tup ys) → TvAll H' ys ((openC u cs).map cellP) → Ks K H H' → Q (.ref t') H'
theorem ok_opened {f c Pt : Addr} {fd : FuncData} (F : FnP K "opened" s_opened f fd) (B : Blt mg) (CA : CodeAt K mg base fd c Pt) : FnOk P w K mg base CX 2 f fd ["cells", "drawer"] (spOpen K Pt) := by
  obtain ⟨oc, od, dV, kV, doc, pm, an, cdv, ct, osl, rfl, lk, hcd, _, _⟩ := F.ex
  obtain rfl : cdv = .ref c := CA.e
  refine fn_of (k := 1) lk hcd sc_opened (fun vs H Q E h => ?_) (fun A outer s H vs Q E hr h => ?_)
  · obtain ⟨t, xs, cs, u, rfl, _⟩ := h
    rfl
  · obtain ⟨t, xs, cs, u, rfl, ht, tv, bm, hT, q⟩ := h
    refine ⟨_, pss_one (ps_ret (pe_tupG (own := [("held", 2)]) (g := gName 2) (k := 0) hr (by rfl) B.tuple CA.tb rfl (genOk_by (by rfl)) sc_opened.nd (pi_tup (pv 0)) (fun A s H code fp pn r => pg_name (i := 2) sc_opened.nd rfl (Or.inl rfl))
      (fun A s H code fp pn r => pts_nil) (fun A s H code fp pn r => pe_ifExp (PW.pt (pw_and (pt_cmpR op_notN (pv 2) pe_non (nomark _)) (pw_and1 (pt_cmpR op_le (pe_ix (ix_tup : IxR _ (rIxT K)) (pv 2) pe_int (fun _ _ => rfl)) (pv 1) (nomark _))))) (pv 2) pe_non))), ?_⟩
    have xl : xs.length = cs.length := by rw [tv.len, List.length_map]
    refine ⟨.ref t, rfl, t, rfl, ⟨xs, SqT.of ht⟩, hT, fun H2 tb => gt_tup (xs := xs) (fun (ys : List V) i H' => TvAll H' ys ((openC u (cs.take i)).map cellP) ∧ Ks K H H') (fun _ i H' _ w => SqT.of (w.2.t _ _ ht)) (fun ys i x H' hx w => ?_) (fun ys H' w => ?_) (c0 := []) ⟨.nil, Ks.tab CA.sk hT tb⟩⟩
    · obtain ⟨tvy, ks⟩ := w
      obtain ⟨o, ho, tvx⟩ := tv_at tv hx
      have il : i < cs.length := (List.getElem?_eq_some_iff.mp ho).1
      have tvx' := tvx.mv (ks_kt ks)
      have yl : ys.length < sizeLine := by
        rw [tvy.len, List.length_map]
        unfold openC
        rw [List.length_map, List.length_take]
        exact Nat.lt_of_le_of_lt (Nat.min_le_left _ _) (Nat.lt_of_lt_of_le il (Nat.le_trans bm (by decide)))
      have fin : ∀ v, Tv H' v (cellP (o.filter fun h => decide (h.1 ≤ u))) → ys.length < sizeLine ∧ TvAll H' (ys ++ [v]) ((openC u (cs.take (i + 1))).map cellP) ∧ Ks K H H' := fun v tv => ⟨yl, by rw [open_snoc ho]; exact tvy.app (.cons tv .nil), ks⟩
      refine ⟨rfl, yes_go ?_⟩
      cases o with
      | none =>
        cases tvx'
        exact ⟨.non, rfl, rfl, _, rfl, iteF (fin _ .non)⟩
      | some h =>
        obtain ⟨dt, rfl, hdt⟩ := tvHeld tvx'
        refine ⟨.ref dt, rfl, rfl, _, rfl, iteT ⟨.ref dt, rfl, dt, _, _, iV h.1, rfl, rfl, SqT.of hdt, atI_nat (j := 0) rfl, iV u, rfl, _, _, rfl, rfl, _, rfl, ite2 (fun c => ?_) (fun c => ?_)⟩⟩
        · have c' : h.1 ≤ u := by have := of_decide_eq_true c; omega
          refine ⟨.ref dt, rfl, fin _ ?_⟩
          rw [Option.filter_some, if_pos (by simpa using c')]
          exact tvx'
        · have c' : ¬ h.1 ≤ u := fun z => c (decide_eq_true (by omega))
          refine fin _ ?_
          rw [Option.filter_some, if_neg (by simpa using c')]
          exact .non
    · obtain ⟨tvy, ks⟩ := w
      rw [xl, List.take_length] at tvy
      refine ⟨?_, fun p np => ?_⟩
      · rw [tvy.len, List.length_map]
        unfold openC
        rw [List.length_map]
        exact Nat.le_trans bm (by decide)
      · have ep := Ex.new (o := HO.tup ys) np
        exact q p _ _ upd_same (tvy.mv (Kt.ex ep)) (ks.trans (Ks.ex ep))
end
end K04

set_option maxHeartbeats 4000000
namespace K04
open PySem PySem.Spec PyProof.Rows L2 Hd Evl
section
variable {K : PySem.W.Frag} {S : Addr → Prop} {H H' : Hp}
/-- a fresh list that grows -/
theorem Kl.putF {D : Addr} {xs ys : List V} (k : Kl S H H') (n : H D = none) (h : H' D = some (.lst xs)) : Kl S H (upd H' D (.lst ys)) :=
  ⟨fun b o e t => by rw [upd_ne (ne_of_none e n)]; exact k.e b o e t, fun b o s e => by rw [upd_ne (ne_of_none e n)]; exact k.s b o s e, fun P e => by
    obtain ⟨ps, a, b⟩ := k.g P e
    exact ⟨ps, by rw [upd_ne (fun z => by rw [z, h] at a; cases a)]; exact a, b⟩⟩
/-- the inner loop of a comprehension of two clauses, over a tuple -/
theorem lc2_tup {a : Addr} {ys : List V} {g1 : TG} {tt1 : TT} {te : TE} {vs1 : List Nat} {σ2 : L2.St} {H4 : Hp} {D : Addr} {Nx : Hp → Prop} (Qv : Nat → Hp → Prop) (h0 : Qv 0 H4) (hl : ∀ j H, Qv j H → SqT K H a ys)
    (hs : ∀ j y H, ys[j]? = some y → Qv j H → g1 y (wipe σ2 vs1) H fun σ3 H5 => wipe σ3 vs1 = wipe σ2 vs1 ∧ tt1 σ3 H5 fun b H6 =>
      if b = true then te σ3 H6 fun y H7 => ∃ acc, H7 D = some (.lst acc) ∧ acc.length < sizeLine ∧ Qv (j + 1) (upd H7 D (.lst (acc ++ [y]))) else Qv (j + 1) H6) (hd : ∀ H, Qv ys.length H → Nx H) :
    ∃ W1 : Nat → Nat → Hp → Prop, (∃ m, W1 0 m H4) ∧ ∀ j k H, W1 j k H →
      ((Itt K a).stop j H ∧ Nx H) ∨ ((Itt K a).go j H ∧ ∃ Nx1 : Hp → Prop, (∀ H', Nx1 H' → ∃ k', k' < k ∧ W1 (j + 1) k' H') ∧ ∀ x H', (Itt K a).yld j H x H' → g1 x (wipe σ2 vs1) H' fun σ3 H5 => wipe σ3 vs1 = wipe σ2 vs1 ∧ tt1 σ3 H5 fun b H6 =>
        if b = true then te σ3 H6 fun y H7 => ∃ acc, H7 D = some (.lst acc) ∧ acc.length < sizeLine ∧ Nx1 (upd H7 D (.lst (acc ++ [y]))) else Nx1 H6) := by
  refine ⟨fun j k H => k = ys.length - j ∧ j ≤ ys.length ∧ Qv j H, ⟨_, rfl, Nat.zero_le _, h0⟩, ?_⟩
  rintro j k H ⟨rfl, hj, p⟩
  have q := hl j H p
  rcases Nat.lt_or_ge j ys.length with lt | ge
  · refine .inr ⟨⟨ys, ys[j], q, List.getElem?_eq_getElem lt⟩, Qv (j + 1), fun H' p' => ⟨ys.length - (j + 1), by omega, rfl, lt, p'⟩, fun x H' y => ?_⟩
    obtain ⟨rfl, y⟩ := y
    exact hs j x _ (y ys q) p
  · obtain rfl : j = ys.length := by omega
    exact .inl ⟨⟨ys, q, Nat.le_refl _⟩, hd H p⟩
/-- a comprehension of two clauses, the first over a list -/
theorem lc2_list {a : Addr} {xs : List V} {g : TG} {tt : TT} {wi1 : TI} {g1 : TG} {tt1 : TT} {te : TE} {vs vs1 : List Nat} {σ : L2.St} {H1 : Hp} {D : Addr} {Qd : Hp → Prop} (Pv : Nat → Hp → Prop) (h0 : Pv 0 (upd H1 D (.lst []))) (hl : ∀ i H, Pv i H → SqL K H a xs)
    (hs : ∀ i x H, xs[i]? = some x → Pv i H → g x (wipe σ vs) H fun σ2 H2 => wipe σ2 vs = wipe σ vs ∧ tt σ2 H2 fun b H3 =>
      if b = true then wi1 σ2 H3 fun J1 H4 => ∃ W1 : Nat → Nat → Hp → Prop, (∃ m, W1 0 m H4) ∧ ∀ j k H, W1 j k H →
        (J1.stop j H ∧ Pv (i + 1) H) ∨ (J1.go j H ∧ ∃ Nx1 : Hp → Prop, (∀ H', Nx1 H' → ∃ k', k' < k ∧ W1 (j + 1) k' H') ∧ ∀ x H', J1.yld j H x H' → g1 x (wipe σ2 vs1) H' fun σ3 H5 => wipe σ3 vs1 = wipe σ2 vs1 ∧ tt1 σ3 H5 fun b H6 =>
          if b = true then te σ3 H6 fun y H7 => ∃ acc, H7 D = some (.lst acc) ∧ acc.length < sizeLine ∧ Nx1 (upd H7 D (.lst (acc ++ [y]))) else Nx1 H6)
      else Pv (i + 1) H3) (hd : ∀ H, Pv xs.length H → Qd H) :
    ∃ W : Nat → Nat → Hp → Prop, (∃ m, W 0 m (upd H1 D (.lst []))) ∧ ∀ i m H, W i m H →
      ((Itl K a).stop i H ∧ Qd H) ∨ ((Itl K a).go i H ∧ ∃ Nx : Hp → Prop, (∀ H', Nx H' → ∃ m', m' < m ∧ W (i + 1) m' H') ∧ ∀ x H', (Itl K a).yld i H x H' → g x (wipe σ vs) H' fun σ2 H2 => wipe σ2 vs = wipe σ vs ∧ tt σ2 H2 fun b H3 =>
        if b = true then wi1 σ2 H3 fun J1 H4 => ∃ W1 : Nat → Nat → Hp → Prop, (∃ m, W1 0 m H4) ∧ ∀ j k H, W1 j k H →
          (J1.stop j H ∧ Nx H) ∨ (J1.go j H ∧ ∃ Nx1 : Hp → Prop, (∀ H', Nx1 H' → ∃ k', k' < k ∧ W1 (j + 1) k' H') ∧ ∀ x H', J1.yld j H x H' → g1 x (wipe σ2 vs1) H' fun σ3 H5 => wipe σ3 vs1 = wipe σ2 vs1 ∧ tt1 σ3 H5 fun b H6 =>
            if b = true then te σ3 H6 fun y H7 => ∃ acc, H7 D = some (.lst acc) ∧ acc.length < sizeLine ∧ Nx1 (upd H7 D (.lst (acc ++ [y]))) else Nx1 H6)
        else Nx H3) := by
  refine ⟨fun i m H => m = xs.length - i ∧ i ≤ xs.length ∧ Pv i H, ⟨_, rfl, Nat.zero_le _, h0⟩, ?_⟩
  rintro i m H ⟨rfl, hi, p⟩
  have q := hl i H p
  rcases Nat.lt_or_ge i xs.length with lt | ge
  · refine .inr ⟨⟨xs, xs[i], q, List.getElem?_eq_getElem lt⟩, Pv (i + 1), fun H' p' => ⟨xs.length - (i + 1), by omega, rfl, lt, p'⟩, fun x H' y => ?_⟩
    obtain ⟨rfl, y⟩ := y
    exact hs i x _ (y xs q) p
  · obtain rfl : i = xs.length := by omega
    exact .inl ⟨⟨xs, q, Nat.le_refl _⟩, hd H p⟩
end
theorem cut_two (xs : List V) (a b : Nat) : cutV xs (some ((a + 1 : Nat) : Int)) (some ((b + 1 : Nat) : Int)) = (xs.take (b + 1)).drop (a + 1) := by
  unfold cutV
  rw [HT.sIx_nat, HT.sIx_nat, List.drop_take]
  rcases Nat.lt_or_ge (a + 1) xs.length with l | l
  · rw [Nat.min_eq_left (Nat.le_of_lt l), List.take_eq_take_iff, List.length_drop]
    omega
  · rw [Nat.min_eq_right l, List.drop_of_length_le (Nat.le_refl _), List.drop_of_length_le l, List.take_nil, List.take_nil]
theorem getDT {α : Type} {xs : List α} {i : Nat} {x d : α} (h : xs[i]? = some x) : xs.getD i d = x := by rw [List.getD_eq_getElem?_getD, h] <;> rfl
/-- a picture on the heap -/
theorem tvHist {H : Hp} {v : V} {x : CellsT × List Nat} (h : Tv H v (histP x)) : ∃ t ct st xs, v = .ref t ∧ H t = some (.tup [.ref ct, .ref st]) ∧ H ct = some (.tup xs) ∧ TvAll H xs (x.1.map cellP) ∧ H st = some (.tup (x.2.map iV)) := by
  obtain ⟨t, ys, rfl, ht, all⟩ := tvTup h
  cases all with
  | cons h1 h2 =>
    cases h2 with
    | cons h2 h3 =>
      cases h3
      obtain ⟨ct, xs, rfl, hc, ax⟩ := tvTup h1
      obtain ⟨st, zs, rfl, hs, az⟩ := tvTup h2
      refine ⟨t, ct, st, xs, rfl, ht, hc, ax, ?_⟩
      rw [hs]
      congr 2
      have : ∀ {zs : List V} {l : List Nat}, TvAll H zs (l.map intP) → zs = l.map iV := by
        intro zs l
        induction l generalizing zs with
        | nil => intro h; cases h; rfl
        | cons a l ih =>
          intro h
          cases h with
          | cons h1 h2 =>
            cases h1
            rw [ih h2]
            rfl
      exact this az
structure SeenP (K : PySem.W.Frag) (Pt : Addr) (vs : List V) (H : Hp) (Q : VK) : Prop where
  go : ∃ (D T : Addr) (hv : List V) (hist : HistT) (ts : List Nat) (n u : Nat), vs = [.ref D, iV u, .ref T] ∧ H D = some (.lst hv) ∧ TvAll H hv (hist.map histP) ∧ H T = some (.tup (ts.map iV)) ∧ ts ≠ [] ∧ ts.length ≤ 1000 ∧ (∀ t ∈ ts, t < hist.length) ∧ HistOk n hist ∧ n ≤ 12 ∧ hist.length ≤ 50 ∧ GxR.TabG H Pt ∧
  ∀ v H', Tv H' v (.tuple ((viewT n u hist ts).map histP)) → Ks K H H' → Q v H'
def spSeen (K : PySem.W.Frag) (Pt : Addr) : Sp := fun vs H Q _ => SeenP K Pt vs H Q
section
variable {CX : CXT} {P : Program} {w : World} {K : PySem.W.Frag} {mg : Str → Option Value} {base : Heap}
theorem ok_seen {f fO Pt : Addr} {fd dO : FuncData} (F : FnP K "seen" s_seen f fd) (B : Blt mg) (hsort : mg "sorted" = none) (hset : mg "set" = none) (O : Fn P w K mg base CX0 2 "opened" ["cells", "drawer"] (spOpen K Pt) fO dO) : FnOk P w K mg base CX 3 f fd ["history", "drawer", "times"] (spSeen K Pt) := by
  refine F.ok (CX := CX) sc_seen (fun vs H Q E h => ?_) (fun cdv A outer s H vs Q E hr h => ?_)
  · obtain ⟨D, T, hv, hist, ts, n, u, rfl, _⟩ := h
    rfl
  · obtain ⟨D, T, hv, hist, ts, n, u, rfl, hD, tvh, hT, ne, tl, lt, ok, n12, hl, hP, q⟩ := h
    refine ⟨_, (pss_cons (ps_set (i := 3) sc_seen.nd rfl (Or.inl rfl) (pe_lst pa_nil))
      (pss_cons (ps_set (i := 4) sc_seen.nd rfl (Or.inl rfl) (pe_ix ix_tup (pv 2) pe_int (fun _ _ => rfl)))
      (pss_cons (ps_for (passes_of rfl) rfl (pi_tup (pv 2)) (pg_name (i := 5) sc_seen.nd rfl (Or.inl rfl))
        (pss_cons (ps_setLc2 (i := 6) (own := [("state", 7), ("cell", 8)]) (vs1 := [8]) (g := gName 7) (g1 := gName 8) (by rfl) sc_seen.nd rfl rfl (sw_true rfl rfl (by rfl) (by decide +kernel)) (pi_list (pe_slice sl_list (pv 0) (po_some (pe_op op_add (pv 4) pe_int)) (po_some (pe_op op_add (pv 5) pe_int)))) (blkOk_by (own := [("state", 7), ("cell", 8)]) (N := n_seen) (sc := defScope s_seen) (by decide +kernel)) (by decide)
            (fun _ _ _ _ _ => pg_name (i := 7) sc_seen.nd rfl (Or.inl rfl)) (fun _ _ _ _ _ => pts_nil) (fun _ _ _ _ _ => (pi_tup (pe_ix (ix_tup : IxR _ (rIxT K)) (pv 7) pe_int (fun _ _ => rfl)) : PI _ _ _ (iTup K _))) (fun _ _ _ _ _ => pg_name (i := 8) sc_seen.nd rfl (Or.inl rfl)) (fun _ _ _ _ _ => pts_nil) (fun _ _ _ _ _ => pv 8))
        (pss_cons (ps_expr (pe_bm PySem.F.plainAttrs_list PySem.F.slot_list_append PySem.F.type_list_append mt_append (pv 3) (pa_cons (pe_tup (pa_cons (pe_call O.G (hr.mono (by decide)) (by rfl) O.m O.k O.b .nil pass0 (pa_cons (pe_ix ix_tup (pe_ix ix_list (pv 0) (pv 5) (fun _ _ => rfl)) pe_int (fun _ _ => rfl)) (pa_cons (pv 1) pa_nil)))
            (pa_cons (pe_callTy call_tuple_of (by rfl) B.tuple (by decide +kernel) (pa_cons (pe_callB (cr_sortedSet rfl) (by rfl) hsort (by decide +kernel) (pa_cons (pe_callTy (cr_setLs rfl) (by rfl) hset (by decide +kernel) (pa_cons (pv 6) pa_nil)) pa_nil)) pa_nil)) pa_nil))) pa_nil)))
        (pss_one (ps_set (i := 4) sc_seen.nd rfl (Or.inl rfl) (pv 5))))))
      (pss_one (ps_ret (pe_callTy call_tuple_of (by rfl) B.tuple (by decide +kernel) (pa_cons (pv 3) pa_nil))))))), ?_⟩
    have tpos : 0 < ts.length := List.length_pos_iff.mpr ne
    have at_ : ∀ i, i < ts.length → (ts.map iV)[i]? = some (iV (timeT ts i)) ∧ timeT ts i < hist.length := fun i hi => by
      have e : ts[i]? = some ts[i] := List.getElem?_eq_getElem hi
      have e2 : timeT ts i = ts[i] := by unfold timeT; rw [List.getD_eq_getElem?_getD, e]; rfl
      rw [List.getElem?_map, e, e2]
      exact ⟨rfl, lt _ (List.getElem_mem hi)⟩
    have hvl : hv.length = hist.length := by rw [tvh.len, List.length_map]
    refine ⟨Nat.zero_le _, fun F nF => ?_⟩
    have eF := Ex.new (o := HO.lst []) nF
    refine ⟨.ref T, rfl, T, _, _, iV (timeT ts 0), rfl, rfl, SqT.of (eF _ _ hT), atI_nat (j := 0) (at_ 0 tpos).1, ?_⟩
    refine ⟨.ref T, rfl, T, rfl, ⟨_, SqT.of (eF _ _ hT)⟩, ?_⟩
    refine for_tup (xs := ts.map iV) (fun i σ G => ∃ (ws : List V) (y5 y6 : Option V), σ = [some (.ref D), some (iV u), some (.ref T), some (.ref F), some (iV (timeT ts (i - 1))), y5, y6, none, none] ∧ G F = some (.lst ws) ∧ TvAll G ws (((List.range i).map (lookT n u hist ts)).map histP) ∧ Ks K H G)
      ⟨[], none, none, rfl, upd_same, .nil, Ks.ex eF⟩ (fun i σ G _ w => by
        obtain ⟨_, _, _, _, _, _, ks⟩ := w
        exact SqT.of (ks.t _ _ hT)) (fun i x σ G hx w => ?_) (fun σ G w => ?_)
    · obtain ⟨ws, y5, y6, rfl, gF, tvw, ks⟩ := w
      have il : i < ts.length := by have := (List.getElem?_eq_some_iff.mp hx).1; rwa [List.length_map] at this
      obtain ⟨a1, a2⟩ := at_ i il
      rw [a1] at hx
      obtain rfl := Option.some.inj hx
      have b2 : timeT ts (i - 1) < hist.length := (at_ (i - 1) (by omega)).2
      have gD := ks.l _ _ hD
      refine ⟨.ref D, rfl, iV (timeT ts (i - 1)), rfl, _, _, rfl, rfl, ((timeT ts (i - 1) + 1 : Nat) : Int), rfl, iV (timeT ts i), rfl, _, _, rfl, rfl, ((timeT ts i + 1 : Nat) : Int), rfl, D, hv, rfl, SqL.of gD, fun p np => ⟨p, rfl, ⟨_, SqL.of upd_same⟩, fun N nN => ?_⟩⟩
      rw [cut_two] at nN ⊢
      have ep := Ex.new (o := HO.lst ((hv.take (timeT ts i + 1)).drop (timeT ts (i - 1) + 1))) np
      have gF1 := ep _ _ gF
      have ks1 := ks.trans (Ks.ex ep)
      have tvw1 := tvw.mv (Kt.ex ep)
      have gp : upd G p (HO.lst ((hv.take (timeT ts i + 1)).drop (timeT ts (i - 1) + 1))) p = some (.lst ((hv.take (timeT ts i + 1)).drop (timeT ts (i - 1) + 1))) := upd_same
      generalize upd G p (HO.lst ((hv.take (timeT ts i + 1)).drop (timeT ts (i - 1) + 1))) = G1 at nN gF1 ks1 tvw1 gp ⊢
      clear ep np gF tvw ks gD
      have bnd : ∀ j, (((((hist.take (timeT ts i + 1)).drop (timeT ts (i - 1) + 1)).take j).flatMap (·.2)).length ≤ 600) := fun j => by
        refine Nat.le_trans (Hd.flat_len (n := 12) (m := 0) fun x hx => ?_) ?_
        · obtain ⟨_, nd, l⟩ := ok x (List.mem_of_mem_take (List.mem_of_mem_drop (List.mem_of_mem_take hx)))
          exact Nat.le_trans (nodup_bound nd l) n12
        · rw [List.length_take, List.length_drop, List.length_take]
          omega
      refine lc2_list (fun j G' => G' N = some (.lst (((((hist.take (timeT ts i + 1)).drop (timeT ts (i - 1) + 1)).take j).flatMap (·.2)).map iV)) ∧ Ks K G1 G') ⟨upd_same, Ks.ex (Ex.new nN)⟩ (fun j G' w => SqL.of (w.2.l _ _ gp)) (fun j x G' hx w => ?_) (fun G' w => ?_)
      · obtain ⟨gN, k1⟩ := w
        rw [List.getElem?_drop] at hx
        have hx2 : hv[timeT ts (i - 1) + 1 + j]? = some x := by
          rw [List.getElem?_take] at hx
          split at hx
          · exact hx
          · cases hx
        have jb : timeT ts (i - 1) + 1 + j < timeT ts i + 1 := by
          rw [List.getElem?_take] at hx
          split at hx
          · assumption
          · cases hx
        obtain ⟨y, hy, tvy⟩ := tv_at tvh hx2
        have hy2 : ((hist.take (timeT ts i + 1)).drop (timeT ts (i - 1) + 1))[j]? = some y := by
          rw [List.getElem?_drop, List.getElem?_take, if_pos jb]
          exact hy
        have e : (((hist.take (timeT ts i + 1)).drop (timeT ts (i - 1) + 1)).take (j + 1)).flatMap (·.2) = (((hist.take (timeT ts i + 1)).drop (timeT ts (i - 1) + 1)).take j).flatMap (·.2) ++ y.2 := by
          rw [takeSnoc hy2, List.flatMap_append]
          simp
        have bn := bnd (j + 1)
        rw [e, List.length_append] at bn
        obtain ⟨t, ct, st, xs, rfl, ht, hc, tc, hs⟩ := tvHist (tvy.mv (ks_kt (ks1.trans k1)))
        refine ⟨rfl, yes_go ?_⟩
        refine ⟨.ref t, rfl, t, _, _, .ref st, rfl, rfl, SqT.of ht, atI_nat (j := 1) rfl, st, rfl, ⟨_, SqT.of hs⟩, ?_⟩
        refine lc2_tup (fun k G2 => G2 N = some (.lst (((((hist.take (timeT ts i + 1)).drop (timeT ts (i - 1) + 1)).take j).flatMap (·.2) ++ y.2.take k).map iV)) ∧ Ks K G1 G2 ∧ G2 st = some (.tup (y.2.map iV))) ⟨by rw [List.take_zero, List.append_nil]; exact gN, k1, hs⟩ (fun k G2 w => SqT.of w.2.2) (fun k z G2 hz w => ?_) (fun G2 w => ?_)
        · obtain ⟨g1, k2, g3⟩ := w
          rw [List.getElem?_map] at hz
          obtain ⟨m, hm, rfl⟩ := Option.map_eq_some_iff.mp hz
          have kl : k < y.2.length := (List.getElem?_eq_some_iff.mp hm).1
          refine ⟨rfl, yes_go ⟨iV m, rfl, _, g1, ?_, ?_, k2.putF nN g1, ?_⟩⟩
          · rw [List.length_map, List.length_append, List.length_take]
            exact Nat.lt_of_le_of_lt (show _ ≤ 600 by omega) (by decide)
          · rw [upd_same, takeSnoc hm, ← List.append_assoc, List.map_append (l₂ := [m])] <;> rfl
          · rw [upd_ne (fun z => by rw [z, g1] at g3; cases g3)]
            exact g3
        · obtain ⟨g1, k2, g3⟩ := w
          rw [List.length_map, List.take_length, ← e] at g1
          exact ⟨g1, k2⟩
      · obtain ⟨gN, k1⟩ := w
        rw [List.length_drop, List.length_take, hvl, List.take_of_length_le (by rw [List.length_drop, List.length_take] <;> exact Nat.le_refl _)] at gN
        obtain ⟨y, hy⟩ : ∃ y, hist[timeT ts i]? = some y := ⟨_, List.getElem?_eq_getElem a2⟩
        obtain ⟨v, hv1, tvv⟩ := tvAtD tvh hy
        have k2 := ks1.trans k1
        obtain ⟨t, ct, st, xs, rfl, ht, hc, tc, hs⟩ := tvHist (tvv.mv (ks_kt k2))
        have oy := ok y (List.mem_of_getElem? hy)
        have gF2 := k1.l _ _ gF1
        have sl := ok.since_len (timeT ts (i - 1)) (timeT ts i)
        have sb := ok.since (timeT ts (i - 1)) (timeT ts i)
        have sl2 : (sinceT hist (timeT ts (i - 1)) (timeT ts i)).length ≤ 600 := Nat.le_trans sl (Nat.le_trans (Nat.mul_le_mul hl n12) (by decide))
        have gD2 := k2.l _ _ hD
        refine ⟨.ref F, rfl, .inl ⟨rfl, _, SqL.of gF2⟩, .ref D, rfl, iV (timeT ts i), rfl, D, hv, _, .ref t, rfl, rfl, SqL.of gD2, atI_nat hv1, t, _, _, .ref ct, rfl, rfl, SqT.of ht, atI_nat (j := 0) rfl, iV u, rfl, ct, xs, y.1, u, rfl, hc, tc, by rw [oy.1]; omega, k2.g _ hP, fun t' zs H3 ht3 tz k3 => ?_⟩
        have gN3 := k3.l _ _ gN
        refine ⟨.ref N, rfl, N, (sinceT hist (timeT ts (i - 1)) (timeT ts i)).map fun (x : Nat) => (x : Int), rfl, ?_, by rw [List.length_map]; omega, fun a c hc2 na => ?_⟩
        · rw [List.map_map]
          exact SqL.of gN3
        have ea := Ex.new (o := SetO w a (fun j => decide (j ∈ (sinceT hist (timeT ts (i - 1)) (timeT ts i)).map fun (x : Nat) => (x : Int))) c) na
        have c12 : c ≤ n := hc2 n fun x hx => by
          obtain ⟨z, hz, rfl⟩ := List.mem_map.mp hx
          have := sb z hz
          omega
        refine ⟨a, _, c, rfl, upd_same, by omega, fun is p2 hs1 hm _ np2 => ?_⟩
        have e2 := Ex.new (o := HO.lst (is.map V.int)) np2
        have eis := srt_ints sb hs1 fun k => by
          rw [hm k, decide_eq_true_eq, List.mem_map]
          exact ⟨fun ⟨x, a, b⟩ => ⟨x, a, b.symm⟩, fun ⟨x, a, b⟩ => ⟨x, a, b.symm⟩⟩
        refine ⟨p2, is.map V.int, rfl, .inl ⟨SqL.of upd_same, fun t4 nt4 => ?_⟩⟩
        have e4 := Ex.new (o := HO.tup (is.map V.int)) nt4
        refine ⟨by show 2 ≤ sizeLine; decide, fun t5 nt5 => ?_⟩
        have e5 := Ex.new (o := HO.tup [V.ref t', V.ref t4]) nt5
        have e25 := ((ea.trans e2).trans e4).trans e5
        have gF5 := e25 _ _ (k3.l _ _ gF2)
        have k5 := (k2.trans k3).trans (Ks.ex e25)
        refine ⟨F, ws, .ref t5, rfl, rfl, gF5, ?_, ?_⟩
        · rw [tvw1.len, List.length_map, List.length_map, List.length_range]
          exact Nat.lt_of_lt_of_le il (Nat.le_trans tl (by decide))
        refine ⟨iV (timeT ts i), rfl, ws ++ [.ref t5], some (iV (timeT ts i)), some (.ref N), rfl, upd_same, ?_, k5.putF nF gF5⟩
        rw [List.range_succ, List.map_append, List.map_append]
        have kt : Kt G1 _ := (ks_kt (k1.trans k3)).trans (Kt.ex e25)
        refine TvAll.mv ((tvw1.mv kt).app (.cons (.tup upd_same (.cons (.tup (e25 _ _ ht3) ?_) (.cons (.tup (e5 _ _ upd_same) ?_) .nil))) .nil)) (Kt.put gF5)
        · show TvAll _ zs ((openC u (hist.getD (timeT ts i) ([], [])).1).map cellP)
          rw [getDT hy]
          exact tz.mv (Kt.ex e25)
        · show TvAll _ (is.map V.int) ((srtT n (sinceT hist (timeT ts (i - 1)) (timeT ts i))).map intP)
          rw [eis, List.map_map]
          exact tvInts _
    · obtain ⟨ws, y5, y6, rfl, gF, tvw, ks⟩ := w
      rw [List.length_map] at tvw
      refine ⟨.ref F, rfl, F, ws, rfl, .inl ⟨SqL.of gF, fun t nt => q _ _ (.tup upd_same (tvw.mv (Kt.ex (Ex.new nt)))) (ks.trans (Ks.ex (Ex.new nt)))⟩⟩
end
end K04

set_option maxHeartbeats 4000000
namespace K04
open PySem PySem.Spec PyProof.Rows L2 Hd Evl
/-! ### the times of a view -/
def intV : V → Int
  | .int i => i
  | _ => 0
/-- rising, each from least to most -/
def timesB (most : Int) : Int → List V → Bool
  | _, [] => true
  | least, x :: r => isNum x least most && timesB most (intV x + 1) r
theorem num_int {x : V} {lo hi : Int} (h : isNum x lo hi = true) : ∃ i, x = .int i := by
  cases x with
  | int i => exact ⟨i, rfl⟩
  | _ => cases h
/-- the least that the next may be -/
def leastV : List V → Int
  | [] => 0
  | xs => intV (xs.getLastD .non) + 1
structure TimesP (K : PySem.W.Frag) (CT Pn : Addr) (vs : List V) (H : Hp) (Q : VK) (E : XK) : Prop where
  go : ∃ (lf : Addr) (v : V) (s : String) (ss : List V) (ls : List Nat), vs = [.ref lf, v] ∧ H lf = some (.tup ss) ∧ Paired (SessL H) ss ls ∧ ls.sum ≤ 1000 ∧ GxR.TabG H Pn ∧ KindV K H v s ∧ (isK s "tuple" = false → E (.ref CT) none H) ∧
  ∀ t xs, v = .ref t → H t = some (.tup xs) → xs.length ≤ 1000 ∧ (∀ x ∈ xs, ∀ G : Hp, ∃ s, KindV K G x s) ∧ (xs ≠ [] → timesB (ls.sum : Nat) 0 xs = true → ∀ H', Ks K H H' → Q .non H') ∧ ((xs = [] ∨ timesB (ls.sum : Nat) 0 xs = false) → ∀ H', Ks K H H' → E (.ref CT) none H')
def spTimes (K : PySem.W.Frag) (CT Pn : Addr) : Sp := fun vs H Q E => TimesP K CT Pn vs H Q E
section
variable {P : Program} {w : World} {K : PySem.W.Frag} {mg : Str → Option Value} {base : Heap} {C : Addr} {cs : Cs} {tb : Tb}
theorem mono_times {CT Pn : Addr} {vs : List V} {H : Hp} {Q Q' : VK} {E : XK} (h : spTimes K CT Pn vs H Q E) (f : ∀ v H1, Q v H1 → Q' v H1) : spTimes K CT Pn vs H Q' E := by
  obtain ⟨lf, v, s, ss, ls, e, h1, h2, h3, h4, h5, q1, q2⟩ := h
  exact ⟨lf, v, s, ss, ls, e, h1, h2, h3, h4, h5, q1, fun t xs e1 e2 => let ⟨a, b, c, d⟩ := q2 t xs e1 e2; ⟨a, b, fun n m H' k => f _ _ (c n m H' k), d⟩⟩
theorem times_snoc {most : Int} : ∀ {xs : List V} {x : V} {least : Int}, timesB most least (xs ++ [x]) = (timesB most least xs && isNum x (match xs with | [] => least | _ => intV (xs.getLastD .non) + 1) most)
  | [], x, least => by simp [timesB]
  | y :: r, x, least => by
    have ih := times_snoc (most := most) (xs := r) (x := x) (least := intV y + 1)
    show (isNum y least most && timesB most (intV y + 1) (r ++ [x])) = ((isNum y least most && timesB most (intV y + 1) r) && _)
    rw [ih, Bool.and_assoc]
    cases r <;> rfl
theorem times_next {most : Int} {xs : List V} {x : V} : timesB most 0 (xs ++ [x]) = (timesB most 0 xs && isNum x (leastV xs) most) := by
  rw [times_snoc]
  cases xs <;> rfl
theorem least_next {xs : List V} {x : V} : leastV (xs ++ [x]) = intV x + 1 := by
  cases xs with
  | nil => rfl
  | cons y r =>
    show intV ((y :: (r ++ [x])).getLastD .non) + 1 = _
    rw [List.getLastD_eq_getLast?, ← List.cons_append, List.getLast?_append]
    rfl
theorem times_pre {most : Int} : ∀ {xs ys : List V} {least : Int}, timesB most least (xs ++ ys) = true → timesB most least xs = true
  | [], _, _, _ => rfl
  | x :: r, ys, least, h => by
    obtain ⟨a, b⟩ := Bool.and_eq_true_iff.mp (show (isNum x least most && timesB most (intV x + 1) (r ++ ys)) = true from h)
    show (isNum x least most && timesB most (intV x + 1) r) = true
    rw [a, times_pre b] <;> rfl
theorem ok_check_times {f fN fM : Addr} {fd dN dM : FuncData} {CT Pn : Addr} (F : FnP K "check_times" s_check_times f fd) (B : Blt mg) (T : Fn P w K mg base CX0 1 "is_number" ["value", "least", "most"] (spNumber K) fN dN) (M : Fn P w K mg base CX0 2 "moment_count" ["life"] (spMany K Pn) fM dM) (N : ErrP K mg "BadTimes" CT) : FnOk P w K mg base (L2.CX P w) 3 f fd ["life", "times"] (spTimes K CT Pn) := by
  refine F.ok (CX := L2.CX P w) sc_check_times (fun vs H Q E h => ?_) (fun cdv A outer s H vs Q E hr h => ?_)
  · obtain ⟨lf, v, s, ss, ls, rfl, _⟩ := h
    rfl
  · obtain ⟨lf, v, sk, ss, ls, rfl, hlf, hp, hs, hT, kv, q1, q2⟩ := h
    refine ⟨_, (pss_cons (ps_if (PW.pt (pw_or (pt_not (pt_val (pe_callB call_isS (by rfl) B.isinstance (by decide +kernel) (pa_cons (pv 1) (pa_cons (pe_ty "tuple" (by rfl) B.tuple (by decide +kernel)) pa_nil))))) (pw_or1 (pt_not (pt_truth (pv 1) (fun _ => rfl)))))) (pss_one (ps_raiseP N rfl (takes_of (E := E) rfl rfl rfl rfl) (by rfl))) pss_nil)
      (pss_cons (ps_set (i := 2) sc_check_times.nd rfl (Or.inl rfl) pe_int)
      (pss_one (ps_for (passes_of rfl) rfl (pi_tup (pv 1)) (pg_name (i := 3) sc_check_times.nd rfl (Or.inl rfl))
        (pss_cons (ps_if (pt_not (pt_val (pe_call T.G (hr.mono (by decide)) (by rfl) T.m T.k T.b .nil pass0 (pa_cons (pv 3) (pa_cons (pv 2) (pa_cons (pe_call M.G (hr.mono (by decide)) (by rfl) M.m M.k M.b .nil pass0 (pa_cons (pv 0) pa_nil)) pa_nil)))))) (pss_one (ps_raiseP N rfl (takes_of (E := E) rfl rfl rfl rfl) (by rfl))) pss_nil)
        (pss_one (ps_set (i := 2) sc_check_times.nd rfl (Or.inl rfl) (pe_op op_add (pv 3) pe_int)))))))), ?_⟩
    refine ⟨_, rfl, _, _, "tuple", _, rfl, kv.ty, kv.isT, _, rfl, ?_⟩
    cases ek : isK sk "tuple" with
    | false => exact iteT (q1 ek)
    | true =>
      cases kv with
      | tup ht =>
        rename_i t xs
        obtain ⟨xl, kx, qy, qn⟩ := q2 t xs rfl ht
        refine iteF ⟨.ref t, rfl, !xs.isEmpty, .inr (.inl ⟨xs, SqT.of ht, rfl⟩), ?_⟩
        cases xs with
        | nil => exact iteT (qn (.inl rfl) H Ks.refl)
        | cons x0 r0 =>
          refine iteF ?_
          refine ⟨.ref t, rfl, t, rfl, ⟨_, SqT.of ht⟩, ?_⟩
          generalize hxs : x0 :: r0 = xs at *
          have ne : xs ≠ [] := fun z => by rw [z] at hxs; cases hxs
          refine for_tup (xs := xs) (fun i σ G => ∃ y3, σ = [some (.ref lf), some (.ref t), some (.int (leastV (xs.take i))), y3] ∧ Ks K H G ∧ timesB (ls.sum : Nat) 0 (xs.take i) = true)
            ⟨none, rfl, Ks.refl, rfl⟩ (fun i σ G _ w => by obtain ⟨_, _, ks, _⟩ := w; exact SqT.of (ks.t _ _ ht)) (fun i x σ G hx w => ?_) (fun σ G w => ?_)
          · obtain ⟨y3, rfl, ks, tb⟩ := w
            obtain ⟨sx, kx1⟩ := kx x (List.mem_of_getElem? hx) H
            have e : xs.take (i + 1) = xs.take i ++ [x] := takeSnoc hx
            refine ⟨x, rfl, .int (leastV (xs.take i)), rfl, .ref lf, rfl, lf, ss, ls, rfl, ks.t _ _ hlf, paired_im2 hp (fun _ _ _ h => h.ks ks), by omega, ks.g _ hT, fun G2 k2 _ => ?_⟩
            obtain ⟨sx, kx1⟩ := kx x (List.mem_of_getElem? hx) G2
            refine ⟨x, sx, leastV (xs.take i), (ls.sum : Nat), rfl, kx1, _, rfl, ?_⟩
            have k12 := ks.trans k2
            cases en : isNum x (leastV (xs.take i)) (ls.sum : Nat) with
            | false =>
              refine iteT (qn (.inr ?_) G2 k12)
              cases ew : timesB (ls.sum : Nat) 0 xs with
              | false => rfl
              | true =>
                exfalso
                have := times_pre (xs := xs.take (i + 1)) (ys := xs.drop (i + 1)) (by rw [List.take_append_drop]; exact ew)
                rw [e, times_next, tb, en] at this
                cases this
            | true =>
              obtain ⟨z, rfl⟩ := num_int en
              refine iteF ⟨.int z, rfl, z, 1, rfl, rfl, some (.int z), ?_, k12, by rw [e, times_next, tb, en]; rfl⟩
              rw [e, least_next]
              rfl
          · obtain ⟨y3, rfl, ks, tb⟩ := w
            rw [List.take_length] at tb
            exact qy ne tb G ks
      | _ => exact absurd ek (by decide +kernel)
end
end K04

set_option maxHeartbeats 4000000
namespace K04
open PySem PySem.Spec PyProof.Rows L2 Hd Evl
/-! ### view and looks -/
theorem rg_seq (m : Nat) : rgV 0 (m : Int) = (List.range m).map iV := by
  unfold rgV
  rw [Int.sub_zero, Int.toNat_natCast]
  refine List.map_congr_left fun i _ => ?_
  rw [Int.zero_add]
structure ViewP (K : PySem.W.Frag) (tb : Tb) (vs : List V) (H : Hp) (Q : VK) : Prop where
  go : ∃ (hs lf cf tt : Addr) (n k d p c : Nat) (w : Way) (L : LifeT) (cs : List Nat) (u : Nat) (ts : List Nat), vs = [.ref hs, .str (wayS w), .ref lf, .ref cf, iV u, .ref tt] ∧ InP hs lf cf n k d p c L cs tb.o H ∧ GxR.TabG H tb.p ∧ H tt = some (.tup (ts.map iV)) ∧ ts ≠ [] ∧ ts.length ≤ 1000 ∧ (∀ t ∈ ts, t ≤ lenT L) ∧
  ∀ v H', Tv H' v (.tuple ((viewT n u (runT n w p c (setOf n k cs) L).2 ts).map histP)) → Ks K H H' → Q v H'
structure LooksP (K : PySem.W.Frag) (tb : Tb) (vs : List V) (H : Hp) (Q : VK) : Prop where
  go : ∃ (hs lf cf : Addr) (n k d p c : Nat) (w : Way) (L : LifeT) (cs : List Nat) (u : Nat), vs = [.ref hs, .str (wayS w), .ref lf, .ref cf, iV u] ∧ InP hs lf cf n k d p c L cs tb.o H ∧ GxR.TabG H tb.p ∧
  ∀ v H', Tv H' v (.tuple ((viewT n u (runT n w p c (setOf n k cs) L).2 (List.range (lenT L + 1))).map histP)) → Ks K H H' → Q v H'
section
variable {P : Program} {w : World} {K : PySem.W.Frag} {mg : Str → Option Value} {base : Heap} {C : Addr} {cs : Cs} {tb : Tb}
theorem InP.hist {hs lf cf : Addr} {n k d p c : Nat} {L : LifeT} {cn : List Nat} {Pt : Addr} {H : Hp} (I : InP hs lf cf n k d p c L cn Pt H) (w : Way) : HistOk n (runT n w p c (setOf n k cn) L).2 ∧ (runT n w p c (setOf n k cn) L).2.length = lenT L + 1 :=
  ⟨histOk_run (setsAll (nck_pos I.hh.kn) I.co) L, (I.rn w).hist⟩
def sp_view (K : PySem.W.Frag) (cs : Cs) (tb : Tb) : Sp := fun vs H Q E => ∃ v0 v1 v2 v3 v4 v5, vs = [v0, v1, v2, v3, v4, v5] ∧ sp_check_run K cs tb [v0, v1, v2, v3] H (fun _ H1 => spChk K (fun d _ => d) cs.D [v0, v4] H1 (fun _ H2 => spTimes K cs.Z tb.n [v2, v5] H2 (fun _ H3 => ViewP K tb vs H3 Q) E) E) E
def sp_looks (K : PySem.W.Frag) (cs : Cs) (tb : Tb) : Sp := fun vs H Q E => ∃ v0 v1 v2 v3 v4, vs = [v0, v1, v2, v3, v4] ∧ sp_check_run K cs tb [v0, v1, v2, v3] H (fun _ H1 => spChk K (fun d _ => d) cs.D [v0, v4] H1 (fun _ H2 => LooksP K tb vs H2 Q) E) E
theorem ok_view {f fT fS : Addr} {fd dT dS : FuncData} (F : FnP K "view" s_view f fd) (c : Rc P w K mg base C cs tb) (T : Fn P w K mg base (L2.CX P w) 3 "check_times" ["life", "times"] (spTimes K cs.Z tb.n) fT dT) (S : Fn P w K mg base CX0 3 "seen" ["history", "drawer", "times"] (spSeen K tb.p) fS dS) :
    FnOk P w K mg base (L2.CX P w) 11 f fd ["house", "way", "life", "coins", "drawer", "times"] (sp_view K cs tb) := by
  refine F.ok (CX := L2.CX P w) sc_view (fun vs H Q E h => ?_) (fun cdv A outer s H vs Q E hr h => ?_)
  · obtain ⟨v0, v1, v2, v3, v4, v5, rfl, _⟩ := h
    rfl
  · obtain ⟨v0, v1, v2, v3, v4, v5, rfl, h⟩ := h
    refine ⟨_, (pss_cons (ps_expr (pe_call c.R.G hr (by rfl) c.R.m c.R.k c.R.b .nil (passX (E := E) rfl rfl rfl rfl) (pa_cons (pv 0) (pa_cons (pv 1) (pa_cons (pv 2) (pa_cons (pv 3) pa_nil))))))
      (pss_cons (ps_expr (pe_call c.D.G (hr.mono (by decide)) (by rfl) c.D.m c.D.k c.D.b .nil (passX (E := E) rfl rfl rfl rfl) (pa_cons (pv 0) (pa_cons (pv 4) pa_nil))))
      (pss_cons (ps_expr (pe_call T.G (hr.mono (by decide)) (by rfl) T.m T.k T.b .nil (passX (E := E) rfl rfl rfl rfl) (pa_cons (pv 2) (pa_cons (pv 5) pa_nil))))
      (pss_cons (ps_asg (pe_call c.U.G (hr.mono (by decide)) (by rfl) c.U.m c.U.k c.U.b .nil (passX (E := E) rfl rfl rfl rfl) (pa_cons (pv 0) (pa_cons (pv 1) (pa_cons (pv 2) (pa_cons (pv 3) pa_nil))))) (pg_tup rfl (pgs_cons (pg_name (i := 6) sc_view.nd rfl (Or.inl rfl)) (pgs_cons (pg_name (i := 7) sc_view.nd rfl (Or.inl rfl)) pgs_nil))))
      (pss_one (ps_ret (pe_call S.G (hr.mono (by decide)) (by rfl) S.m S.k S.b .nil pass0 (pa_cons (pv 7) (pa_cons (pv 4) (pa_cons (pv 5) pa_nil)))))))))), ?_⟩
    refine ⟨v0, rfl, v1, rfl, v2, rfl, v3, rfl, ?_⟩
    dsimp only [tNil, tCall, List.append_nil]
    refine mono_check_run h (fun _ H1 h1 => ?_)
    refine ⟨v0, rfl, v4, rfl, ?_⟩
    dsimp only [tNil, tCall, List.append_nil]
    refine mono_chk h1 (fun _ H2 h2 => ?_)
    refine ⟨v2, rfl, v5, rfl, ?_⟩
    dsimp only [tNil, tCall, List.append_nil]
    refine mono_times h2 (fun _ H3 h3 => ?_)
    obtain ⟨hs, lf, cf, tt, n, k, d, p, cc, w, L, csn, u, ts, e, I, hP, htt, ne, tl, tb2, q⟩ := h3
    cases e
    refine ⟨.ref hs, rfl, .str (wayS w), rfl, .ref lf, rfl, .ref cf, rfl, hs, lf, cf, n, k, d, p, cc, w, L, csn, rfl, I.hh, I.tv, I.ok, I.hcf, I.cl, I.co, I.tb, fun t a D H4 ht R => ?_⟩
    obtain ⟨q1, nn, hv, R1, bn, e1, e2, e3, gD, tvh, fr, nD⟩ := R.go
    obtain ⟨ho, hl⟩ := I.hist w
    have n12 := I.hh.n12
    have l40 := I.ok.len
    refine ⟨t, _, rfl, SqT.of ht, rfl, _, _, rfl, _, _, rfl, rfl, ?_⟩
    exact ⟨.ref D, rfl, iV u, rfl, .ref tt, rfl, D, tt, hv, _, ts, n, u, rfl, gD, tvh, R.ks.t _ _ htt, ne, tl, fun x hx => by have := tb2 x hx; omega, ho, n12, by omega, R.ks.g _ hP, fun v H' tv k5 => q v H' tv (R.ks.trans k5)⟩
theorem ok_looks {f fS : Addr} {fd dS : FuncData} (F : FnP K "looks" s_looks f fd) (B : Blt mg) (c : Rc P w K mg base C cs tb) (S : Fn P w K mg base CX0 3 "seen" ["history", "drawer", "times"] (spSeen K tb.p) fS dS) :
    FnOk P w K mg base (L2.CX P w) 11 f fd ["house", "way", "life", "coins", "drawer"] (sp_looks K cs tb) := by
  refine F.ok (CX := L2.CX P w) sc_looks (fun vs H Q E h => ?_) (fun cdv A outer s H vs Q E hr h => ?_)
  · obtain ⟨v0, v1, v2, v3, v4, rfl, _⟩ := h
    rfl
  · obtain ⟨v0, v1, v2, v3, v4, rfl, h⟩ := h
    refine ⟨_, (pss_cons (ps_expr (pe_call c.R.G hr (by rfl) c.R.m c.R.k c.R.b .nil (passX (E := E) rfl rfl rfl rfl) (pa_cons (pv 0) (pa_cons (pv 1) (pa_cons (pv 2) (pa_cons (pv 3) pa_nil))))))
      (pss_cons (ps_expr (pe_call c.D.G (hr.mono (by decide)) (by rfl) c.D.m c.D.k c.D.b .nil (passX (E := E) rfl rfl rfl rfl) (pa_cons (pv 0) (pa_cons (pv 4) pa_nil))))
      (pss_cons (ps_asg (pe_call c.U.G (hr.mono (by decide)) (by rfl) c.U.m c.U.k c.U.b .nil (passX (E := E) rfl rfl rfl rfl) (pa_cons (pv 0) (pa_cons (pv 1) (pa_cons (pv 2) (pa_cons (pv 3) pa_nil))))) (pg_tup rfl (pgs_cons (pg_name (i := 5) sc_looks.nd rfl (Or.inl rfl)) (pgs_cons (pg_name (i := 6) sc_looks.nd rfl (Or.inl rfl)) pgs_nil))))
      (pss_one (ps_ret (pe_call S.G (hr.mono (by decide)) (by rfl) S.m S.k S.b .nil pass0 (pa_cons (pv 6) (pa_cons (pv 4) (pa_cons (pe_tupRg rfl (by rfl) B.tuple (prg_1 (by rfl) B.range (pe_callB call_len_seq (by rfl) B.len (by decide +kernel) (pa_cons (pv 6) pa_nil)))) pa_nil))))))))), ?_⟩
    refine ⟨v0, rfl, v1, rfl, v2, rfl, v3, rfl, ?_⟩
    dsimp only [tNil, tCall, List.append_nil]
    refine mono_check_run h (fun _ H1 h1 => ?_)
    refine ⟨v0, rfl, v4, rfl, ?_⟩
    dsimp only [tNil, tCall, List.append_nil]
    refine mono_chk h1 (fun _ H2 h2 => ?_)
    obtain ⟨hs, lf, cf, n, k, d, p, cc, w, L, csn, u, e, I, hP, q⟩ := h2
    cases e
    refine ⟨.ref hs, rfl, .str (wayS w), rfl, .ref lf, rfl, .ref cf, rfl, hs, lf, cf, n, k, d, p, cc, w, L, csn, rfl, I.hh, I.tv, I.ok, I.hcf, I.cl, I.co, I.tb, fun t a D H4 ht R => ?_⟩
    obtain ⟨q1, nn, hv, R1, bn, e1, e2, e3, gD, tvh, fr, nD⟩ := R.go
    obtain ⟨ho, hl⟩ := I.hist w
    have n12 := I.hh.n12
    have l40 := I.ok.len
    have hvl : hv.length = lenT L + 1 := by rw [tvh.len, List.length_map, hl]
    refine ⟨t, _, rfl, SqT.of ht, rfl, _, _, rfl, _, _, rfl, rfl, ?_⟩
    refine ⟨.ref D, rfl, iV u, rfl, .ref D, rfl, D, hv, rfl, .inl (SqL.of gD), hv.length, rfl, ?_, fun t6 nt6 => ?_⟩
    · exact RgOk.of_le (Int.le_refl _) (by omega) (by decide) (by omega)
    have e6 := Ex.new (o := HO.tup (rgV 0 hv.length)) nt6
    refine ⟨D, t6, hv, _, List.range (lenT L + 1), n, u, rfl, e6 _ _ gD, tvh.mv (Kt.ex e6), ?_, by simp, by rw [List.length_range]; omega, fun x hx => by have := List.mem_range.mp hx; omega, ho, n12, by omega, tab_ex (R.ks.g _ hP) e6, fun v H' tv k5 => q v H' tv ((R.ks.trans (Ks.ex e6)).trans k5)⟩
    rw [upd_same, rg_seq, hvl]
end
end K04

set_option maxHeartbeats 4000000
namespace K04
open PySem PySem.Spec PyProof.Rows L2 Hd Evl
/-- as Ks, but a fresh list D grows -/
structure Kd (K : PySem.W.Frag) (D : Addr) (H H' : Hp) : Prop where
  e : ∀ b o, b ≠ D → H b = some o → (∀ ps, o ≠ .tbl ps) → H' b = some o
  s : ∀ b o, b ≠ D → ¬ Sk K b → H b = some o → H' b = some o
  g : ∀ P, P ≠ D → GxR.TabG H P → GxR.TabG H' P
section
variable {K : PySem.W.Frag} {D : Addr} {H H1 H2 : Hp} {o : HO}
theorem Kd.ks (k : Kd K D H H1) (n : H D = none) : Ks K H H1 := ⟨fun b o h t => k.e b o (ne_of_none h n) h t, fun b o t h => k.s b o (ne_of_none h n) t h, fun P h => k.g P (fun e => by obtain ⟨ps, h1, _⟩ := h; rw [e, n] at h1; cases h1) h⟩
theorem Kd.of (k : Ks K H H1) : Kd K D H H1 := ⟨fun b o _ h t => k.e b o h t, fun b o _ t h => k.s b o t h, fun P _ h => k.g P h⟩
theorem Kd.trans (a : Kd K D H H1) (b : Kd K D H1 H2) : Kd K D H H2 := ⟨fun c u n h t => b.e c u n (a.e c u n h t) t, fun c u n t h => b.s c u n t (a.s c u n t h), fun P n h => b.g P n (a.g P n h)⟩
theorem Kd.upd : Kd K D H (upd H D o) := ⟨fun b u n h _ => by rw [upd_ne n]; exact h, fun b u n _ h => by rw [upd_ne n]; exact h, fun P n ⟨ps, h1, h2⟩ => ⟨ps, by rw [upd_ne n]; exact h1, h2⟩⟩
end
section
variable {CX : CXT} {P : Program} {w : World} {K : PySem.W.Frag} {mg : Str → Option Value} {base : Heap}
/-! ### the program's upper -/
def spUpM (K : PySem.W.Frag) (Pt : Addr) : Sp := fun vs H Q _ => ∃ (t : Addr) (m : MomT) (u : Nat), vs = [.ref t, iV u] ∧ Tv H (.ref t) (momP m) ∧ m.length ≤ 1000 ∧ GxR.TabG H Pt ∧ ∀ (t' : Addr) H', Tv H' (.ref t') (momP (upM u m)) → Ks K H H' → Q (.ref t') H'
theorem ok_upM {f c Pt : Addr} {fd : FuncData} (F : FnP K "upper_moment" s_upper_moment f fd) (B : Blt mg) (CA : CodeAt K mg base fd c Pt) : FnOk P w K mg base CX 2 f fd ["moment", "drawer"] (spUpM K Pt) := by
  obtain ⟨oc, od, dV, kV, doc, pm, an, cdv, ct, osl, rfl, lk, hcd, _, _⟩ := F.ex
  obtain rfl : cdv = .ref c := CA.e
  refine fn_of (k := 1) lk hcd sc_upper_moment (fun vs H Q E h => ?_) (fun A outer s H vs Q E hr h => ?_)
  · obtain ⟨t, m, u, rfl, _⟩ := h
    rfl
  · obtain ⟨t, m, u, rfl, tv, bm, hT, q⟩ := h
    refine ⟨_, pss_one (ps_ret (pe_tupG (own := [("deed", 2)]) (g := gName 2) (k := 0) hr (by rfl) B.tuple CA.tb rfl (genOk_by (by rfl)) sc_upper_moment.nd (pi_tup (pv 0)) (fun A s H code fp pn r => pg_name (i := 2) sc_upper_moment.nd rfl (Or.inl rfl))
      (fun A s H code fp pn r => pts_one (pt_cmpR op_le (pe_ix (ix_tup : IxR _ (rIxT K)) (pv 2) pe_int (fun _ _ => rfl)) (pv 1) (nomark _))) (fun A s H code fp pn r => pv 2))), ?_⟩
    obtain ⟨ds, ht, all⟩ := tv_ref tv
    have dl : ds.length = m.length := by rw [all.len, List.length_map]
    refine ⟨.ref t, rfl, t, rfl, ⟨ds, SqT.of ht⟩, hT, fun H2 tb => gt_tup (xs := ds) (fun (ys : List V) i H' => TvAll H' ys ((upM u (m.take i)).map deedP) ∧ Ks K H H') (fun _ i H' _ w => SqT.of (w.2.t _ _ ht)) (fun ys i x H' hx w => ?_) (fun ys H' w => ?_) (c0 := []) ⟨.nil, Ks.tab CA.sk hT tb⟩⟩
    · obtain ⟨tvy, ks⟩ := w
      obtain ⟨x0, hx0, tvx⟩ := tv_at all hx
      have il : i < m.length := (List.getElem?_eq_some_iff.mp hx0).1
      have tvx' := tvx.mv (ks_kt ks)
      obtain ⟨dt, rfl, hdt⟩ := tv_deed tvx'
      refine ⟨rfl, .ref dt, rfl, dt, _, _, iV x0.1, rfl, rfl, SqT.of hdt, atI_nat (j := 0) rfl, iV u, rfl, _, _, rfl, rfl, _, rfl, ite2 (fun c => ?_) (fun c => ?_)⟩
      · have c' : x0.1 ≤ u := by have := of_decide_eq_true c; omega
        refine ⟨.ref dt, rfl, ?_, ?_, ks⟩
        · rw [tvy.len, List.length_map]
          refine Nat.lt_of_le_of_lt (List.length_filter_le _ _) ?_
          rw [List.length_take]
          exact Nat.lt_of_le_of_lt (Nat.min_le_left _ _) (Nat.lt_of_lt_of_le il (Nat.le_trans bm (by decide)))
        · rw [filter_snoc u hx0, if_pos c', List.map_append]
          exact tvy.app (.cons tvx' .nil)
      · have c' : ¬ x0.1 ≤ u := fun z => c (decide_eq_true (by omega))
        refine ⟨?_, ks⟩
        rw [filter_snoc u hx0, if_neg c', List.append_nil]
        exact tvy
    · obtain ⟨tvy, ks⟩ := w
      rw [dl, List.take_length] at tvy
      refine ⟨?_, fun p np => ?_⟩
      · rw [tvy.len, List.length_map]
        exact Nat.le_trans (List.length_filter_le _ _) (Nat.le_trans bm (by decide))
      · have ep := Ex.new (o := HO.tup ys) np
        exact q p _ (.tup upd_same (tvy.mv (Kt.ex ep))) (ks.trans (Ks.ex ep))
def spAbove (K : PySem.W.Frag) (Pu Pt : Addr) : Sp := fun vs H Q _ => ∃ (t : Addr) (L : LifeT) (u : Nat), vs = [.ref t, iV u] ∧ Tv H (.ref t) (lifeP L) ∧ (∀ s ∈ L, s.2.length ≤ 1000 ∧ ∀ m ∈ s.2, m.length ≤ 1000) ∧ L.length ≤ 1000 ∧ GxR.TabG H Pu ∧ GxR.TabG H Pt ∧ ∀ (t' : Addr) H', Tv H' (.ref t') (lifeP (upT u L)) → Ks K H H' → Q (.ref t') H'
theorem ok_above {f fU c Pu Pt : Addr} {fd fdU : FuncData} (F : FnP K "above" s_above f fd) (B : Blt mg) (CA : CodeAt K mg base fd c Pt) (TU : Fn P w K mg base CX0 2 "upper_moment" ["moment", "drawer"] (spUpM K Pu) fU fdU) : FnOk P w K mg base CX 4 f fd ["life", "drawer"] (spAbove K Pu Pt) := by
  obtain ⟨oc, od, dV, kV, doc, pm, an, cdv, ct, osl, rfl, lk, hcd, _, _⟩ := F.ex
  obtain rfl : cdv = .ref c := CA.e
  refine fn_of (k := 3) lk hcd sc_above (fun vs H Q E h => ?_) (fun A outer s H vs Q E hr h => ?_)
  · obtain ⟨t, L, u, rfl, _⟩ := h
    rfl
  · obtain ⟨t, L, u, rfl, tv, b1, b2, hTu, hT, q⟩ := h
    refine ⟨_, (pss_cons (ps_set (i := 2) sc_above.nd rfl (Or.inl rfl) (pe_lst pa_nil))
    (pss_cons (ps_for (passes_of rfl) rfl (pi_tup (pv 0)) (pg_tup rfl (pgs_cons (pg_name (i := 3) sc_above.nd rfl (Or.inl rfl)) (pgs_cons (pg_name (i := 4) sc_above.nd rfl (Or.inl rfl)) pgs_nil))) (pss_cons (ps_set (i := 5) sc_above.nd rfl (Or.inl rfl) (pe_tupG (own := [("moment", 6)]) (g := gName 6) (k := 2) hr (by rfl) B.tuple CA.tb rfl (genOk_by (by rfl)) sc_above.nd (pi_tup (pv 4)) (fun A s H code fp pn r => pg_name (i := 6) sc_above.nd rfl (Or.inl rfl)) (fun A s H code fp pn r => pts_nil)
        (fun A s H code fp pn r => pe_call TU.G r (by rfl) TU.m TU.k TU.b .nil pass0 (pa_cons (pv 6) (pa_cons (pv 1) pa_nil)))))
    (pss_one (ps_expr (pe_bm PySem.F.plainAttrs_list PySem.F.slot_list_append PySem.F.type_list_append mt_append (pv 2) (pa_cons (pe_tup (pa_cons (pe_callB (call_min2 rfl) (by rfl) B.min (by decide +kernel) (pa_cons (pv 3) (pa_cons (pv 1) pa_nil))) (pa_cons (pv 5) pa_nil))) pa_nil))))))
    (pss_one (ps_ret (pe_callTy call_tuple_of (by rfl) B.tuple (by decide +kernel) (pa_cons (pv 2) pa_nil)))))), ?_⟩
    obtain ⟨ss, hs, all⟩ := tv_ref tv
    have hl : ss.length = L.length := by rw [all.len, List.length_map]
    refine ⟨Nat.zero_le _, fun F nF => ⟨.ref t, rfl, t, rfl, ⟨ss, SqT.of ((Ex.new (o := HO.lst []) nF) _ _ hs)⟩, ?_⟩⟩
    refine for_tup (xs := ss) (fun i σ G => ∃ (ws : List V) (y3 y4 y5 : Option V), σ = [some (.ref t), some (iV u), some (.ref F), y3, y4, y5, none] ∧ G F = some (.lst ws) ∧ TvAll G ws ((upT u (L.take i)).map sessP) ∧ Kd K F H G) ⟨[], none, none, none, rfl, upd_same, .nil, Kd.upd⟩ (fun i σ G _ w => by obtain ⟨_, _, _, _, _, _, _, k⟩ := w; exact SqT.of ((k.ks nF).t _ _ hs)) (fun i x σ G hx w => ?_) (fun σ G w => ?_)
    · obtain ⟨ws, y3, y4, y5, rfl, gF, tvw, kG⟩ := w
      obtain ⟨sx, hsx, tvx⟩ := tv_at all hx
      have il : i < L.length := (List.getElem?_eq_some_iff.mp hsx).1
      obtain ⟨bs, bm⟩ := b1 sx (List.mem_of_getElem? hsx)
      have eG := kG.ks nF
      obtain ⟨tt, su, us, rfl, h1, h2, h3⟩ := tv_sess (tvx.mv (ks_kt eG))
      have hul : us.length = sx.2.length := by rw [h3.len, List.length_map]
      refine ⟨tt, _, rfl, SqT.of h1, rfl, _, _, rfl, _, _, rfl, rfl, .ref su, rfl, su, rfl, ⟨us, SqT.of h2⟩, eG.g _ hT, fun H2 tb => ?_⟩
      have k2 : Ks K G H2 := Ks.tab CA.sk (eG.g _ hT) tb
      refine gt_tup (xs := us) (fun (ys : List V) j H' => TvAll H' ys (((sx.2.take j).map (upM u)).map momP) ∧ Ks K G H') (fun _ j H' _ w => SqT.of (w.2.t _ _ h2)) (fun ys j y H' hy w => ?_) (fun ys H' w => ?_) (c0 := []) ⟨.nil, k2⟩
      · obtain ⟨tvy, ks⟩ := w
        obtain ⟨m, hm, tvm⟩ := tv_at h3 hy
        have jl : j < sx.2.length := (List.getElem?_eq_some_iff.mp hm).1
        have bmm := bm m (List.mem_of_getElem? hm)
        obtain ⟨mt, ds, rfl, hmt, a3⟩ := tv_tup (tvm.mv (ks_kt ks))
        refine ⟨rfl, yes_go ⟨.ref mt, rfl, iV u, rfl, mt, m, u, rfl, .tup hmt a3, bmm, ks.g _ (eG.g _ hTu), fun t' H3 tv3 k3 => ?_⟩⟩
        refine ⟨?_, ?_, ks.trans k3⟩
        · rw [tvy.len, List.length_map, List.length_map, List.length_take]
          exact Nat.lt_of_le_of_lt (Nat.min_le_left _ _) (Nat.lt_of_lt_of_le jl (Nat.le_trans bs (by decide)))
        · rw [take_snoc hm, List.map_append, List.map_append]
          exact (tvy.mv (ks_kt k3)).app (.cons tv3 .nil)
      · obtain ⟨tvy, ks⟩ := w
        rw [hul, List.take_length] at tvy
        refine ⟨?_, fun ts nts => ?_⟩
        · rw [tvy.len, List.length_map, List.length_map]
          exact Nat.le_trans bs (by decide)
        have es := Ex.new (o := HO.tup ys) nts
        have gF2 := es _ _ (ks.l _ _ gF)
        refine ⟨.ref F, rfl, .inl ⟨rfl, _, SqL.of gF2⟩, iV sx.1, rfl, iV u, rfl, _, _, rfl, .ref ts, rfl, by show 2 ≤ sizeLine; decide, fun tp ntp => ?_⟩
        obtain ⟨mn, hmn⟩ : ∃ mn : Nat, (if ((u : Nat) : Int) < ((sx.1 : Nat) : Int) then ((u : Nat) : Int) else ((sx.1 : Nat) : Int)) = (mn : Int) ∧ mn = min sx.1 u := by
          by_cases z : ((u : Nat) : Int) < ((sx.1 : Nat) : Int)
          · exact ⟨u, by rw [if_pos z], by omega⟩
          · exact ⟨sx.1, by rw [if_neg z], by omega⟩
        rw [hmn.1]
        have ep := Ex.new (o := HO.tup [iV mn, .ref ts]) ntp
        have gFp := ep _ _ gF2
        refine ⟨F, ws, _, rfl, rfl, gFp, ?_, ws ++ [.ref tp], some (iV sx.1), some (.ref su), some (.ref ts), rfl, upd_same, ?_, ?_⟩
        · rw [tvw.len, List.length_map, upT, List.length_map, List.length_take]
          exact Nat.lt_of_le_of_lt (Nat.min_le_left _ _) (Nat.lt_of_lt_of_le il (Nat.le_trans b2 (by decide)))
        · unfold upT
          rw [take_snoc hsx, List.map_append, List.map_append]
          have m1 : Kt G _ := (ks_kt ks).trans ((Kt.ex es).trans (Kt.ex ep))
          refine TvAll.mv (TvAll.app (tvw.mv m1) ?_) (Kt.put gFp)
          refine .cons ?_ .nil
          show Tv _ _ (sessP (min sx.1 u, sx.2.map (upM u)))
          rw [← hmn.2]
          exact .tup upd_same (.cons (.int _) (.cons (.tup (ep _ _ upd_same) ((tvy.mv (Kt.ex es)).mv (Kt.ex ep))) .nil))
        · exact (((kG.trans (Kd.of ks)).trans (Kd.of (Ks.ex es))).trans (Kd.of (Ks.ex ep))).trans Kd.upd
    · obtain ⟨ws, y3, y4, y5, rfl, gF, tvw, kG⟩ := w
      rw [hl, List.take_length] at tvw
      refine ⟨.ref F, rfl, F, ws, rfl, .inl ⟨SqL.of gF, fun t' nt => ?_⟩⟩
      have et := Ex.new (o := HO.tup ws) nt
      exact q t' _ (.tup upd_same (tvw.mv (Kt.ex et))) ((kG.ks nF).trans (Ks.ex et))
end
end K04

set_option maxHeartbeats 4000000
namespace K04
open PySem PySem.Spec PyProof.Rows L2 Hd Evl
/-! ### upper, alike_above -/
section
variable {P : Program} {w : World} {K : PySem.W.Frag} {mg : Str → Option Value} {base : Heap} {cs : Cs} {tb : Tb} {H : Hp} {vs : List V} {Q Q' : VK} {E : XK}
theorem mono_above {Pu Pt : Addr} {E' : XK} (h : spAbove K Pu Pt vs H Q E) (f : ∀ v H1, Q v H1 → Q' v H1) : spAbove K Pu Pt vs H Q' E' := by
  obtain ⟨t, L, u, e, h1, h2, h3, h4, h5, q⟩ := h
  exact ⟨t, L, u, e, h1, h2, h3, h4, h5, fun t' H' a b => f _ _ (q t' H' a b)⟩
def sp_upper (K : PySem.W.Frag) (cs : Cs) (tb : Tb) : Sp := fun vs H Q E => ∃ v0 v1 v2, vs = [v0, v1, v2] ∧ spCheck K cs.B [v0] H (fun _ H1 => spLife K cs.L tb.m tb.s [v0, v1] H1 (fun _ H2 => spChk K (fun d _ => d) cs.D [v0, v2] H2 (fun _ H3 => spAbove K tb.u tb.a [v1, v2] H3 Q E) E) E) E
theorem ok_upper {f : Addr} {fd : FuncData} (F : FnP K "upper" s_upper f fd) (c : Ch P w K mg base cs tb) {fA : Addr} {dA : FuncData} (TA : Fn P w K mg base CX0 4 "above" ["life", "drawer"] (spAbove K tb.u tb.a) fA dA) : FnOk P w K mg base (L2.CX P w) 11 f fd ["house", "life", "drawer"] (sp_upper K cs tb) := by
  refine F.ok (CX := L2.CX P w) sc_upper (fun vs H Q E h => ?_) (fun cdv A outer s H vs Q E hr h => ?_)
  · obtain ⟨v0, v1, v2, rfl, _⟩ := h
    rfl
  · obtain ⟨v0, v1, v2, rfl, h⟩ := h
    refine ⟨_, (pss_cons (ps_expr (pe_call c.H.G (hr.mono (by decide)) (by rfl) c.H.m c.H.k c.H.b .nil (passX (E := E) rfl rfl rfl rfl) (pa_cons (pv 0) pa_nil))) (pss_cons (ps_expr (pe_call c.L.G (hr.mono (by decide)) (by rfl) c.L.m c.L.k c.L.b .nil (passX (E := E) rfl rfl rfl rfl) (pa_cons (pv 0) (pa_cons (pv 1) pa_nil)))) (pss_cons (ps_expr (pe_call c.D.G (hr.mono (by decide)) (by rfl) c.D.m c.D.k c.D.b .nil (passX (E := E) rfl rfl rfl rfl) (pa_cons (pv 0) (pa_cons (pv 2) pa_nil)))) (pss_one (ps_ret (pe_call TA.G (hr.mono (by decide)) (by rfl) TA.m TA.k TA.b .nil pass0 (pa_cons (pv 1) (pa_cons (pv 2) pa_nil)))))))), ?_⟩
    refine ⟨v0, rfl, ?_⟩
    dsimp only [tNil, tCall, List.append_nil]
    refine mono_house h (fun _ H1 h1 => ?_)
    refine ⟨v0, rfl, v1, rfl, ?_⟩
    dsimp only [tNil, tCall, List.append_nil]
    refine mono_life h1 (fun _ H2 h2 => ?_)
    refine ⟨v0, rfl, v2, rfl, ?_⟩
    dsimp only [tNil, tCall, List.append_nil]
    refine mono_chk h2 (fun _ H3 h3 => ?_)
    refine ⟨v1, rfl, v2, rfl, ?_⟩
    dsimp only [tNil, tCall, List.append_nil]
    exact mono_above h3 (fun _ _ z => z)
def sp_alike_above (K : PySem.W.Frag) (cs : Cs) (tb : Tb) : Sp := fun vs H Q E => ∃ v0 v1 v2 v3, vs = [v0, v1, v2, v3] ∧ spCheck K cs.B [v0] H (fun _ H1 => spLife K cs.L tb.m tb.s [v0, v1] H1 (fun _ H2 => spLife K cs.L tb.m tb.s [v0, v2] H2 (fun _ H3 => spChk K (fun d _ => d) cs.D [v0, v3] H3 (fun _ H4 => spAbove K tb.u tb.a [v1, v3] H4 (fun x H5 => spAbove K tb.u tb.a [v2, v3] H5 (fun y H6 => rEqD K x y H6 Q) E) E) E) E) E) E
theorem ok_alike_above {f : Addr} {fd : FuncData} (F : FnP K "alike_above" s_alike_above f fd) (c : Ch P w K mg base cs tb) {fA : Addr} {dA : FuncData} (TA : Fn P w K mg base CX0 4 "above" ["life", "drawer"] (spAbove K tb.u tb.a) fA dA) : FnOk P w K mg base (L2.CX P w) 11 f fd ["house", "one", "other", "drawer"] (sp_alike_above K cs tb) := by
  refine F.ok (CX := L2.CX P w) sc_alike_above (fun vs H Q E h => ?_) (fun cdv A outer s H vs Q E hr h => ?_)
  · obtain ⟨v0, v1, v2, v3, rfl, _⟩ := h
    rfl
  · obtain ⟨v0, v1, v2, v3, rfl, h⟩ := h
    refine ⟨_, (pss_cons (ps_expr (pe_call c.H.G (hr.mono (by decide)) (by rfl) c.H.m c.H.k c.H.b .nil (passX (E := E) rfl rfl rfl rfl) (pa_cons (pv 0) pa_nil))) (pss_cons (ps_expr (pe_call c.L.G (hr.mono (by decide)) (by rfl) c.L.m c.L.k c.L.b .nil (passX (E := E) rfl rfl rfl rfl) (pa_cons (pv 0) (pa_cons (pv 1) pa_nil)))) (pss_cons (ps_expr (pe_call c.L.G (hr.mono (by decide)) (by rfl) c.L.m c.L.k c.L.b .nil (passX (E := E) rfl rfl rfl rfl) (pa_cons (pv 0) (pa_cons (pv 2) pa_nil)))) (pss_cons (ps_expr (pe_call c.D.G (hr.mono (by decide)) (by rfl) c.D.m c.D.k c.D.b .nil (passX (E := E) rfl rfl rfl rfl) (pa_cons (pv 0) (pa_cons (pv 3) pa_nil)))) (pss_one (ps_ret (pe_cmpR (op_eqD hr.units) (pe_call TA.G (hr.mono (by decide)) (by rfl) TA.m TA.k TA.b .nil pass0 (pa_cons (pv 1) (pa_cons (pv 3) pa_nil))) (pe_call TA.G (hr.mono (by decide)) (by rfl) TA.m TA.k TA.b .nil pass0 (pa_cons (pv 2) (pa_cons (pv 3) pa_nil))) (nomark _)))))))), ?_⟩
    refine ⟨v0, rfl, ?_⟩
    dsimp only [tNil, tCall, List.append_nil]
    refine mono_house h (fun _ H1 h1 => ?_)
    refine ⟨v0, rfl, v1, rfl, ?_⟩
    dsimp only [tNil, tCall, List.append_nil]
    refine mono_life h1 (fun _ H2 h2 => ?_)
    refine ⟨v0, rfl, v2, rfl, ?_⟩
    dsimp only [tNil, tCall, List.append_nil]
    refine mono_life h2 (fun _ H3 h3 => ?_)
    refine ⟨v0, rfl, v3, rfl, ?_⟩
    dsimp only [tNil, tCall, List.append_nil]
    refine mono_chk h3 (fun _ H4 h4 => ?_)
    refine ⟨v1, rfl, v3, rfl, ?_⟩
    dsimp only [tNil, tCall, List.append_nil]
    refine mono_above h4 (fun x H5 z => ⟨v2, rfl, v3, rfl, ?_⟩)
    dsimp only [tNil, tCall, List.append_nil]
    exact mono_above z (fun y H6 z => z)
end
end K04

set_option maxHeartbeats 4000000
namespace K04
open PySem PySem.Spec PyProof.Rows L2 Hd Evl
/-! ### a life without what is beneath -/
theorem upT_eq (u : Nat) (L : LifeT) : upT u L = hupT u L := rfl
theorem up_len (u : Nat) (L : LifeT) : lenT (upT u L) = lenT L := by
  unfold lenT upT
  rw [List.map_map]
  refine congrArg _ (List.map_congr_left fun s _ => ?_)
  exact List.length_map _
theorem up_runL {d p u : Nat} {L : LifeT} (h : RunL d p L) : RunL d p (upT u L) := by
  refine ⟨by unfold upT; rw [List.length_map]; exact h.six, fun s hs => ?_, by rw [up_len]; exact h.len⟩
  obtain ⟨s0, hs0, rfl⟩ := List.mem_map.mp hs
  obtain ⟨a, b⟩ := h.sess s0 hs0
  refine ⟨Nat.lt_of_le_of_lt (Nat.min_le_left _ _) a, fun m hm => ?_⟩
  obtain ⟨m0, hm0, rfl⟩ := List.mem_map.mp hm
  obtain ⟨c, e⟩ := b m0 hm0
  refine ⟨Nat.le_trans (List.length_filter_le _ _) c, fun x hx => ?_⟩
  obtain ⟨x1, x2⟩ := List.mem_filter.mp hx
  have := of_decide_eq_true x2
  exact ⟨Nat.le_min.mpr ⟨(e x x1).1, this⟩, (e x x1).2⟩
theorem up_ne {u : Nat} {L : LifeT} (h : L ≠ []) : upT u L ≠ [] := fun e => h (List.map_eq_nil_iff.mp e)
/-! ### what is shown -/
def timesO (b : Bool) (m : Nat) : List Nat := if b = true then List.range (m + 1) else [m]
theorem range_last (m : Nat) : cutV ((List.range (m + 1)).map iV) (some (-1)) none = [iV m] := by
  unfold cutV
  rw [HT.sIx_none]
  have e : HT.sIx ((List.range (m + 1)).map iV).length 0 (some (-1)) = m := by
    show (if (-1 : Int) < 0 then ((-1 : Int) + (((List.range (m + 1)).map iV).length : Int)).toNat else min ((-1 : Int).toNat) ((List.range (m + 1)).map iV).length) = m
    rw [if_pos (by decide), List.length_map, List.length_range]
    omega
  rw [e, List.length_map, List.length_range, ← List.map_drop, List.range_succ, List.drop_append_of_le_length (by rw [List.length_range]; exact Nat.le_refl m), List.drop_of_length_le (by rw [List.length_range]; exact Nat.le_refl m)]
  rw [List.nil_append, show m + 1 - m = 1 by omega]
  rfl
structure ShownP (K : PySem.W.Frag) (tb : Tb) (vs : List V) (H : Hp) (Q : VK) : Prop where
  go : ∃ (hs lf cf : Addr) (n k d p c : Nat) (w : Way) (L : LifeT) (cs : List Nat) (u : Nat) (b : Bool), vs = [.ref hs, .str (wayS w), .ref lf, .ref cf, iV u, .bl b] ∧ InP hs lf cf n k d p c L cs tb.o H ∧ GxR.TabG H tb.p ∧
  ∀ v H', Tv H' v (.tuple ((viewT n u (runT n w p c (setOf n k cs) L).2 (timesO b (lenT L))).map histP)) → Ks K H H' → Q v H'
def spShown (K : PySem.W.Frag) (tb : Tb) : Sp := fun vs H Q _ => ShownP K tb vs H Q
section
variable {P : Program} {w : World} {K : PySem.W.Frag} {mg : Str → Option Value} {base : Heap} {C : Addr} {cs : Cs} {tb : Tb}
theorem ok_shown {f fS : Addr} {fd dS : FuncData} (F : FnP K "shown" s_shown f fd) (B : Blt mg) (c : Rc P w K mg base C cs tb) (S : Fn P w K mg base CX0 3 "seen" ["history", "drawer", "times"] (spSeen K tb.p) fS dS) :
    FnOk P w K mg base (L2.CX P w) 6 f fd ["house", "way", "life", "coins", "drawer", "is_often"] (spShown K tb) := by
  refine F.ok (CX := L2.CX P w) sc_shown (fun vs H Q E h => ?_) (fun cdv A outer s H vs Q E hr h => ?_)
  · obtain ⟨hs, lf, cf, n, k, d, p, cc, w, L, csn, u, b, rfl, _⟩ := h
    rfl
  · obtain ⟨hs, lf, cf, n, k, d, p, cc, w, L, csn, u, b, rfl, I, hP, q⟩ := h
    refine ⟨_, (pss_cons (ps_asg (pe_call c.U.G hr (by rfl) c.U.m c.U.k c.U.b .nil (passX (E := E) rfl rfl rfl rfl) (pa_cons (pv 0) (pa_cons (pv 1) (pa_cons (pv 2) (pa_cons (pv 3) pa_nil))))) (pg_tup rfl (pgs_cons (pg_name (i := 6) sc_shown.nd rfl (Or.inl rfl)) (pgs_cons (pg_name (i := 7) sc_shown.nd rfl (Or.inl rfl)) pgs_nil))))
      (pss_cons (ps_set (i := 8) sc_shown.nd rfl (Or.inl rfl) (pe_tupRg rfl (by rfl) B.tuple (prg_1 (by rfl) B.range (pe_callB call_len_seq (by rfl) B.len (by decide +kernel) (pa_cons (pv 7) pa_nil)))))
      (pss_cons (ps_if (pt_val (pv 5)) (pss_one (ps_ret (pe_call S.G (hr.mono (by decide)) (by rfl) S.m S.k S.b .nil pass0 (pa_cons (pv 7) (pa_cons (pv 4) (pa_cons (pv 8) pa_nil)))))) pss_nil)
      (pss_one (ps_ret (pe_call S.G (hr.mono (by decide)) (by rfl) S.m S.k S.b .nil pass0 (pa_cons (pv 7) (pa_cons (pv 4) (pa_cons (pe_slice sl_tupA (pv 8) (po_some (pe_un un_neg pe_int)) po_none) pa_nil))))))))), ?_⟩
    refine ⟨.ref hs, rfl, .str (wayS w), rfl, .ref lf, rfl, .ref cf, rfl, hs, lf, cf, n, k, d, p, cc, w, L, csn, rfl, I.hh, I.tv, I.ok, I.hcf, I.cl, I.co, I.tb, fun t a D H4 ht R => ?_⟩
    obtain ⟨q1, nn, hv, R1, bn, e1, e2, e3, gD, tvh, fr, nD⟩ := R.go
    obtain ⟨ho, hl⟩ := I.hist w
    have n12 := I.hh.n12
    have l40 := I.ok.len
    have hvl : hv.length = lenT L + 1 := by rw [tvh.len, List.length_map, hl]
    refine ⟨t, _, rfl, SqT.of ht, rfl, _, _, rfl, _, _, rfl, rfl, ?_⟩
    refine ⟨.ref D, rfl, D, hv, rfl, .inl (SqL.of gD), hv.length, rfl, RgOk.of_le (Int.le_refl _) (by omega) (by decide) (by omega), fun t6 nt6 => ?_⟩
    have e6 := Ex.new (o := HO.tup (rgV 0 hv.length)) nt6
    have g6 : upd H4 t6 (.tup (rgV 0 hv.length)) t6 = some (.tup ((List.range (lenT L + 1)).map iV)) := by rw [upd_same, rg_nat, hvl]
    have gD6 := e6 _ _ gD
    have tv6 := tvh.mv (Kt.ex e6)
    have k6 := R.ks.trans (Ks.ex e6)
    generalize upd H4 t6 (.tup (rgV 0 hv.length)) = H6 at g6 gD6 tv6 k6 ⊢
    refine ⟨.bl b, rfl, b, rfl, ?_⟩
    cases b with
    | true =>
      refine iteT ⟨.ref D, rfl, iV u, rfl, .ref t6, rfl, D, t6, hv, _, List.range (lenT L + 1), n, u, rfl, gD6, tv6, g6, by simp, by rw [List.length_range]; omega, fun x hx => by have := List.mem_range.mp hx; omega, ho, n12, by omega, k6.g _ hP, fun v H' tv k5 => q v H' tv (k6.trans k5)⟩
    | false =>
      refine iteF ⟨.ref D, rfl, iV u, rfl, .ref t6, rfl, ?_⟩
      dsimp only [tNoPart]
      have fin : ∀ (t7 : Addr) (H7 : Hp), H7 t7 = some (.tup ([lenT L].map iV)) → Ex H6 H7 → spSeen K tb.p [.ref D, iV u, .ref t7] H7 Q E := fun t7 H7 g7 e7 =>
        ⟨D, t7, hv, _, [lenT L], n, u, rfl, e7 _ _ gD6, tv6.mv (Kt.ex e7), g7, by simp, by show 1 ≤ 1000; decide, fun x hx => by rw [List.mem_singleton.mp hx]; omega, ho, n12, by omega, tab_ex (k6.g _ hP) e7, fun v H' tv k5 => q v H' tv ((k6.trans (Ks.ex e7)).trans k5)⟩
      refine ⟨1, rfl, -1, rfl, t6, _, rfl, SqT.of g6, fun z => ?_, fun _ p np => ?_⟩
      · have z1 := z.1
        have e : HT.sIx ((List.range (lenT L + 1)).map iV).length 0 (some (-1)) = lenT L := by
          show (if (-1 : Int) < 0 then ((-1 : Int) + (((List.range (lenT L + 1)).map iV).length : Int)).toNat else min ((-1 : Int).toNat) ((List.range (lenT L + 1)).map iV).length) = lenT L
          rw [if_pos (by decide), List.length_map, List.length_range]
          omega
        rw [e] at z1
        refine fin t6 H6 ?_ (Ex.refl _)
        rw [g6, z1]
        rfl
      · refine fin p _ ?_ (Ex.new np)
        rw [upd_same, range_last]
        rfl
end
end K04

set_option maxHeartbeats 4000000
namespace K04
open PySem PySem.Spec PyProof.Rows L2 Hd Evl
/-! ### whether a life is told from itself without what is beneath -/
theorem lay_map {α : Type} {f : α → PyData} (h : ∀ x, (f x).canLay0 = true) : ∀ l : List α, PyData.canLayAll0 (l.map f) = true
  | [] => rfl
  | x :: l => by
    show ((f x).canLay0 && PyData.canLayAll0 (l.map f)) = true
    rw [h x, lay_map h l] <;> rfl
theorem dep_map {α : Type} {f : α → PyData} {n : Nat} (h : ∀ x, PyData.depth (f x) ≤ n) : ∀ l : List α, PyData.depthAll (l.map f) ≤ n
  | [] => Nat.zero_le _
  | x :: l => by
    have a := h x
    have b := dep_map h l
    simp only [List.map_cons, PyData.depthAll]
    omega
theorem cell_lay (x : Option Held) : (cellP x).canLay0 = true := by
  cases x with
  | none => rfl
  | some h => rfl
theorem cell_dep (x : Option Held) : PyData.depth (cellP x) ≤ 1 := by
  cases x with
  | none => simp [cellP, PyData.depth]
  | some h => exact Nat.le_of_eq rfl
theorem hist_lay (x : CellsT × List Nat) : (histP x).canLay0 = true := by
  have a := lay_map cell_lay x.1
  have b := lay_map (f := intP) (fun _ => rfl) x.2
  show (PyData.canLayAll0 (x.1.map cellP) && (PyData.canLayAll0 (x.2.map intP) && true)) = true
  rw [a, b] <;> rfl
theorem hist_dep (x : CellsT × List Nat) : PyData.depth (histP x) ≤ 3 := by
  have a := dep_map cell_dep x.1
  have b := dep_map (f := intP) (n := 1) (fun _ => by simp [intP, PyData.depth]) x.2
  unfold histP
  simp only [PyData.depth, PyData.depthAll]
  omega
theorem shaped_view (v : HistT) : SeqAt.shaped (.tuple (v.map histP)) = true := by
  have a := lay_map hist_lay v
  have b := dep_map hist_dep v
  unfold SeqAt.shaped
  rw [Bool.and_eq_true]
  refine ⟨by simpa [PyData.canLay0] using a, decide_eq_true ?_⟩
  simp only [PyData.depth]
  omega
def spOften : Sp := fun vs H Q _ => ∃ b, vs = [.bl b] ∧ Q .non H
/-- a life that a program's def cuts -/
structure CutOk (L : LifeT) : Prop where
  s : ∀ s ∈ L, s.2.length ≤ 1000 ∧ ∀ m ∈ s.2, m.length ≤ 1000
  l : L.length ≤ 1000
structure DifP (K : PySem.W.Frag) (tb : Tb) (vs : List V) (H : Hp) (Q : VK) : Prop where
  go : ∃ (hs lf cf : Addr) (n k d p c : Nat) (L : LifeT) (cs : List Nat) (u : Nat) (b : Bool), vs = [.ref hs, .str (wayS .tru), .ref lf, .ref cf, iV u, .bl b] ∧ InP hs lf cf n k d p c L cs tb.o H ∧ CutOk L ∧ GxR.TabG H tb.p ∧ GxR.TabG H tb.u ∧ GxR.TabG H tb.a ∧ ∀ H', Ks K H H' → Q (.bl false) H'
def spDif (K : PySem.W.Frag) (tb : Tb) : Sp := fun vs H Q _ => DifP K tb vs H Q
def sp_parted (K : PySem.W.Frag) (cs : Cs) (tb : Tb) : Sp := fun vs H Q E => ∃ v0 v1 v2 v3 v4 v5, vs = [v0, v1, v2, v3, v4, v5] ∧ sp_check_run K cs tb [v0, v1, v2, v3] H (fun _ H1 => spChk K (fun d _ => d) cs.D [v0, v4] H1 (fun _ H2 => ∃ b, v5 = .bl b ∧ DifP K tb vs H2 Q) E) E
section
variable {P : Program} {w : World} {K : PySem.W.Frag} {mg : Str → Option Value} {base : Heap} {C : Addr} {cs : Cs} {tb : Tb}
theorem ok_often {CN f : Addr} {fd : FuncData} (F : FnP K "check_often" s_check_often f fd) (B : Blt mg) (N : ErrP K mg "BadNumber" CN) : FnOk P w K mg base (L2.CX P w) 1 f fd ["is_often"] spOften := by
  refine F.ok (CX := L2.CX P w) sc_check_often (fun vs H Q E h => ?_) (fun cdv A outer s H vs Q E hr h => ?_)
  · obtain ⟨b, rfl, _⟩ := h
    rfl
  · obtain ⟨b, rfl, q⟩ := h
    refine ⟨_, pss_one (ps_if (pt_not (pt_val (pe_callB call_isS (by rfl) B.isinstance (by decide +kernel) (pa_cons (pv 0) (pa_cons (pe_ty "bool" (by rfl) B.bool (by decide +kernel)) pa_nil))))) (pss_one (ps_raiseP N rfl (takes_of (E := E) rfl rfl rfl rfl) (by rfl))) pss_nil), ?_⟩
    have kv : KindV K H (.bl b) "bool" := .bl b
    exact ⟨_, rfl, _, _, "bool", _, rfl, kv.ty, kv.isB, _, rfl, iteF q⟩
theorem ok_differs {f fA fS : Addr} {fd dA dS : FuncData} (F : FnP K "differs" s_differs f fd) (TA : Fn P w K mg base CX0 4 "above" ["life", "drawer"] (spAbove K tb.u tb.a) fA dA) (S : Fn P w K mg base (L2.CX P w) 6 "shown" ["house", "way", "life", "coins", "drawer", "is_often"] (spShown K tb) fS dS) :
    FnOk P w K mg base (L2.CX P w) 7 f fd ["house", "way", "life", "coins", "drawer", "is_often"] (spDif K tb) := by
  refine F.ok (CX := L2.CX P w) sc_differs (fun vs H Q E h => ?_) (fun cdv A outer s H vs Q E hr h => ?_)
  · obtain ⟨hs, lf, cf, n, k, d, p, cc, L, csn, u, b, rfl, _⟩ := h
    rfl
  · obtain ⟨hs, lf, cf, n, k, d, p, cc, L, csn, u, b, rfl, I, ok, hP, hU, hA, q⟩ := h
    refine ⟨_, (pss_cons (ps_set (i := 6) sc_differs.nd rfl (Or.inl rfl) (pe_call TA.G (hr.mono (by decide)) (by rfl) TA.m TA.k TA.b .nil pass0 (pa_cons (pv 2) (pa_cons (pv 4) pa_nil))))
      (pss_cons (ps_set (i := 7) sc_differs.nd rfl (Or.inl rfl) (pe_call S.G hr (by rfl) S.m S.k S.b .nil (passX (E := E) rfl rfl rfl rfl) (pa_cons (pv 0) (pa_cons (pv 1) (pa_cons (pv 2) (pa_cons (pv 3) (pa_cons (pv 4) (pa_cons (pv 5) pa_nil))))))))
      (pss_one (ps_ret (pe_cmpR (op_neD hr.units) (pv 7) (pe_call S.G hr (by rfl) S.m S.k S.b .nil (passX (E := E) rfl rfl rfl rfl) (pa_cons (pv 0) (pa_cons (pv 1) (pa_cons (pv 6) (pa_cons (pv 3) (pa_cons (pv 4) (pa_cons (pv 5) pa_nil))))))) (nomark _)))))), ?_⟩
    refine ⟨.ref lf, rfl, iV u, rfl, lf, L, u, rfl, I.tv, ok.s, ok.l, hU, hA, fun t' H1 tv1 k1 => ?_⟩
    have I1 := I.ks k1
    refine ⟨.ref hs, rfl, .str (wayS .tru), rfl, .ref lf, rfl, .ref cf, rfl, iV u, rfl, .bl b, rfl, hs, lf, cf, n, k, d, p, cc, .tru, L, csn, u, b, rfl, I1, k1.g _ hP, fun v H2 tv2 k2 => ?_⟩
    have I2 := I1.ks k2
    have J : InP hs t' cf n k d p cc (upT u L) csn tb.o H2 := ⟨I2.hh, tv1.mv (ks_kt k2), up_runL I2.ok, up_ne I2.ne, I2.hcf, by rw [up_len]; exact I2.cl, I2.co, I2.tb⟩
    refine ⟨v, rfl, .ref hs, rfl, .str (wayS .tru), rfl, .ref t', rfl, .ref cf, rfl, iV u, rfl, .bl b, rfl, hs, t', cf, n, k, d, p, cc, .tru, upT u L, csn, u, b, rfl, J, k2.g _ (k1.g _ hP), fun v3 H3 tv3 k3 => ?_⟩
    have e : viewT n u (runT n .tru p cc (setOf n k csn) (upT u L)).2 (timesO b (lenT (upT u L))) = viewT n u (runT n .tru p cc (setOf n k csn) L).2 (timesO b (lenT L)) := by
      rw [up_len]
      exact (view_look (run_sim (u := u) n p cc (setOf n k csn) L).h _).symm
    rw [e] at tv3
    have sh := shaped_view (viewT n u (runT n .tru p cc (setOf n k csn) L).2 (timesO b (lenT L)))
    refine ⟨_, _, (tv2.mv (ks_kt k3)).dp' K, tv3.dp' K, sh, sh, ?_⟩
    rw [SeqAt.eqv_refl _ (SeqAt.canLay_of_shaped sh)]
    exact q H3 ((k1.trans k2).trans k3)
theorem ok_parted {f fO fD : Addr} {fd dO dD : FuncData} (F : FnP K "is_parted" s_is_parted f fd) (c : Rc P w K mg base C cs tb) (O : Fn P w K mg base (L2.CX P w) 1 "check_often" ["is_often"] spOften fO dO) (D : Fn P w K mg base (L2.CX P w) 7 "differs" ["house", "way", "life", "coins", "drawer", "is_often"] (spDif K tb) fD dD) :
    FnOk P w K mg base (L2.CX P w) 11 f fd ["house", "way", "life", "coins", "drawer", "is_often"] (sp_parted K cs tb) := by
  refine F.ok (CX := L2.CX P w) sc_is_parted (fun vs H Q E h => ?_) (fun cdv A outer s H vs Q E hr h => ?_)
  · obtain ⟨v0, v1, v2, v3, v4, v5, rfl, _⟩ := h
    rfl
  · obtain ⟨v0, v1, v2, v3, v4, v5, rfl, h⟩ := h
    refine ⟨_, (pss_cons (ps_expr (pe_call c.R.G hr (by rfl) c.R.m c.R.k c.R.b .nil (passX (E := E) rfl rfl rfl rfl) (pa_cons (pv 0) (pa_cons (pv 1) (pa_cons (pv 2) (pa_cons (pv 3) pa_nil))))))
      (pss_cons (ps_expr (pe_call c.D.G (hr.mono (by decide)) (by rfl) c.D.m c.D.k c.D.b .nil (passX (E := E) rfl rfl rfl rfl) (pa_cons (pv 0) (pa_cons (pv 4) pa_nil))))
      (pss_cons (ps_expr (pe_call O.G (hr.mono (by decide)) (by rfl) O.m O.k O.b .nil (passX (E := E) rfl rfl rfl rfl) (pa_cons (pv 5) pa_nil)))
      (pss_one (ps_ret (pe_call D.G (hr.mono (by decide)) (by rfl) D.m D.k D.b .nil (passX (E := E) rfl rfl rfl rfl) (pa_cons (pv 0) (pa_cons (pv 1) (pa_cons (pv 2) (pa_cons (pv 3) (pa_cons (pv 4) (pa_cons (pv 5) pa_nil)))))))))))), ?_⟩
    refine ⟨v0, rfl, v1, rfl, v2, rfl, v3, rfl, ?_⟩
    dsimp only [tNil, tCall, List.append_nil]
    refine mono_check_run h (fun _ H1 h1 => ?_)
    refine ⟨v0, rfl, v4, rfl, ?_⟩
    dsimp only [tNil, tCall, List.append_nil]
    refine mono_chk h1 (fun _ H2 h2 => ?_)
    obtain ⟨b, rfl, h3⟩ := h2
    exact ⟨.bl b, rfl, b, rfl, v0, rfl, v1, rfl, v2, rfl, v3, rfl, v4, rfl, .bl b, rfl, h3⟩
end
end K04

set_option maxHeartbeats 4000000
namespace K04
open PySem PySem.Spec PyProof.Rows L2 Hd Evl
/-! ### what a call passes -/
section
variable {K : PySem.W.Frag} {H : Hp} {cs : Cs} {tb : Tb} {sp sp1 sp2 : Sp} {vs vs1 vs2 : List V}
def Pass (K : PySem.W.Frag) (sp : Sp) (vs : List V) (H : Hp) : Prop := ∀ (Q : VK) (E : XK), (∀ H', Ks K H H' → Q .non H') → sp vs H Q E
theorem p_house {a : Addr} {n k d p c : Nat} (hh : HouseAt H a n k d p c) : Pass K (spCheck K cs.B) [.ref a] H := fun Q E h =>
  ⟨.ref a, none, rfl, hh.wr, fun _ => h H Ks.refl, fun y ey => by cases ey⟩
theorem GoodL.le {l : List (Bool × Nat)} {i j : Nat} (g : GoodL l j) (h : i ≤ j) : GoodL l i := by
  have e : l.take i = (l.take j).take i := by rw [List.take_take, Nat.min_eq_left h]
  refine ⟨List.all_eq_true.mpr fun x hx => ?_, ?_⟩
  · rw [e] at hx
    exact List.all_eq_true.mp g.1 x (List.mem_of_mem_take hx)
  · rw [e, List.map_take]
    exact Nat.le_trans (sum_take _ _) g.2
theorem GoodL.fst {l : List (Bool × Nat)} {i j : Nat} (g : GoodL l j) (h : i < j) {x : Bool × Nat} (hx : l[i]? = some x) : x.1 = true := by
  refine List.all_eq_true.mp g.1 x ?_
  exact List.mem_of_getElem? (i := i) (by rw [List.getElem?_take_of_lt h]; exact hx)
/-- a life at v: good, or wrong at a place -/
structure LifeOf (K : PySem.W.Frag) (H : Hp) (d p : Nat) (tb : Tb) (v : V) (o : Option (List (Bool × Nat))) : Prop where
  v : LifeV K H d p v o
  m : GxR.TabG H tb.m
  s : GxR.TabG H tb.s
theorem p_life {a : Addr} {n k d p c : Nat} {v : V} {l : List (Bool × Nat)} (hh : HouseAt H a n k d p c) (L : LifeOf K H d p tb v (some l)) (g : GoodL l l.length) : Pass K (spLife K cs.L tb.m tb.s) [.ref a, v] H := fun Q E h =>
  ⟨a, n, k, d, p, c, v, some l, rfl, hh, L.v, L.m, L.s, fun z => (by cases z), fun l' el => by
    cases el
    refine ⟨fun _ => h, fun i _ b hi => ?_⟩
    obtain ⟨x, hx⟩ : ∃ x, l[i]? = some x := ⟨l[i], List.getElem?_eq_getElem hi⟩
    rcases b x hx with z | z
    · rw [g.fst hi hx] at z
      cases z
    · exact (z (g.le hi)).elim⟩
theorem p_way {x : Str} (b : wayOk (.str x) = true) : Pass K (spWay K cs.B) [.str x] H := fun Q E h =>
  ⟨.str x, "str", rfl, .str x, fun _ => h H Ks.refl, fun z => by rw [b] at z; cases z⟩
theorem p_chk {top : Nat → Nat → Nat} {C : Addr} {a : Addr} {n k d p c : Nat} {v : V} {s : String} (hh : HouseAt H a n k d p c) (kv : KindV K H v s) (b : isNum v 0 ((top d p : Nat) - 1) = true) : Pass K (spChk K top C) [.ref a, v] H := fun Q E h =>
  ⟨a, n, k, d, p, c, v, s, rfl, hh, kv, fun _ => h H Ks.refl, fun z => by rw [b] at z; cases z⟩
/-- the moments of a life at l -/
structure SessOf (H : Hp) (tb : Tb) (l : Addr) (m : Nat) : Prop where
  go : ∃ ss ls, H l = some (.tup ss) ∧ Paired (SessL H) ss ls ∧ ls.sum = m ∧ m ≤ 1000
  n : GxR.TabG H tb.n
theorem p_coins {a l : Addr} {n k d p c m : Nat} {v : V} {bs : List Bool} (hh : HouseAt H a n k d p c) (S : SessOf H tb l m) (cv : CoinsV K H (nck n k) m v (some bs)) (g : bs.all id = true) : Pass K (spCoins K cs.C tb.n) [.ref a, .ref l, v] H := fun Q E h => by
  obtain ⟨ss, ls, h1, h2, h3, h4⟩ := S.go
  subst h3
  refine ⟨a, n, k, d, p, c, l, ss, ls, v, some bs, rfl, hh, h1, h2, Nat.le_trans h4 (by decide), cv, S.n, fun z => (by cases z), fun bs' el => ?_⟩
  cases el
  refine ⟨fun _ H2 k2 _ => h H2 k2, fun j bj _ => ?_⟩
  have := List.all_eq_true.mp g false (List.mem_of_getElem? bj)
  cases this
theorem num_in {i t : Nat} (h : i < t) : isNum (iV i) 0 (((t : Nat) : Int) - 1) = true := by
  rw [isNum_nat, decide_eq_true (show (0 : Int) ≤ (i : Int) by omega), decide_eq_true (show ((i : Nat) : Int) ≤ (t : Int) - 1 by omega)]
  rfl
theorem num_out {i t : Nat} (h : t ≤ i) : isNum (iV i) 0 (((t : Nat) : Int) - 1) = false := by
  rw [isNum_nat, decide_eq_false (show ¬ ((i : Nat) : Int) ≤ (t : Int) - 1 by omega), Bool.and_false]
end
/-! ### a life as the law makes it -/
def FMom (u p : Nat) (m : MomT) : Prop := m.length ≤ 6 ∧ ∀ x ∈ m, OkDeed u p x
def FSess (d p : Nat) (s : Nat × StoryT) : Prop := s.1 < d ∧ ∀ m ∈ s.2, FMom s.1 p m
structure FineL (d p : Nat) (L : LifeT) : Prop where
  one : 1 ≤ L.length
  six : L.length ≤ 6
  sess : ∀ s ∈ L, FSess d p s
  len : lenT L ≤ 40
theorem fine_of {d p : Nat} {L : LifeT} (h : OkLife d p 12 L) : FineL d p L := ⟨h.one, by have := h.three; omega, fun s hs => by
  obtain ⟨a, b⟩ := h.sess s hs
  exact ⟨a, fun m hm => ⟨by have := (b m hm).1; omega, (b m hm).2⟩⟩, by have := h.len; omega⟩
theorem fine_up {d p u : Nat} {L : LifeT} (h : FineL d p L) : FineL d p (upT u L) := by
  refine ⟨by unfold upT; rw [List.length_map]; exact h.one, by unfold upT; rw [List.length_map]; exact h.six, fun s hs => ?_, by rw [up_len]; exact h.len⟩
  obtain ⟨s0, hs0, rfl⟩ := List.mem_map.mp hs
  obtain ⟨a, b⟩ := h.sess s0 hs0
  refine ⟨Nat.lt_of_le_of_lt (Nat.min_le_left _ _) a, fun m hm => ?_⟩
  obtain ⟨m0, hm0, rfl⟩ := List.mem_map.mp hm
  obtain ⟨c, e⟩ := b m0 hm0
  refine ⟨Nat.le_trans (List.length_filter_le _ _) c, fun x hx => ?_⟩
  obtain ⟨x1, x2⟩ := List.mem_filter.mp hx
  have := of_decide_eq_true x2
  exact ⟨Nat.le_min.mpr ⟨(e x x1).1, this⟩, (e x x1).2⟩
theorem numD_nat {i : Nat} {hi : Int} (h : (i : Int) ≤ hi) : numD (intP i) 0 hi = true := by
  show (decide ((0 : Int) ≤ (i : Int)) && decide ((i : Int) ≤ hi)) = true
  rw [decide_eq_true (show (0 : Int) ≤ (i : Int) by omega), decide_eq_true h] <;> rfl
theorem ok_deedD {d p u : Nat} {x : DeedT} (h : OkDeed u p x) (l : u < d) : deedD d p (deedP x) = true := by
  obtain ⟨h1, h2, h3⟩ := h
  show (numD (intP x.1) 0 ((d : Int) - 1) && (numD (intP x.2.1) 0 ((p : Int) - 1) && numD (intP x.2.2) 0 9)) = true
  rw [numD_nat (by omega), numD_nat (by omega), numD_nat (by omega)] <;> rfl
theorem all_id {l : List Bool} (h : ∀ x ∈ l, x = true) : l.all id = true := List.all_eq_true.mpr fun x hx => h x hx
theorem ok_momD {d p u : Nat} {m : MomT} (h : FMom u p m) (l : u < d) : momD d p (momP m) = true := by
  show (decide ((m.map deedP).length ≤ 6) && ((m.map deedP).map (deedD d p)).all id) = true
  rw [decide_eq_true (show (m.map deedP).length ≤ 6 by have := h.1; rw [List.length_map]; omega), all_id fun x hx => ?_] <;> try rfl
  obtain ⟨y, hy, rfl⟩ := List.mem_map.mp hx
  obtain ⟨z, hz, rfl⟩ := List.mem_map.mp hy
  exact ok_deedD (h.2 z hz) l
theorem ok_storyD {d p u : Nat} {s : StoryT} (h : ∀ m ∈ s, FMom u p m) (l : u < d) (b : s.length ≤ 40) : okS (storyD d p (storyP s)) = true := by
  have e : storyD d p (storyP s) = some ((s.map momP).map (momD d p)) := if_pos (by rw [List.length_map]; exact b)
  rw [e]
  refine all_id fun x hx => ?_
  obtain ⟨y, hy, rfl⟩ := List.mem_map.mp hx
  obtain ⟨z, hz, rfl⟩ := List.mem_map.mp hy
  exact ok_momD (h z hz) l
theorem low_story {p u : Nat} {s : StoryT} (h : ∀ m ∈ s, FMom u p m) : storyLowD (intD (intP u)) (storyP s) = true := by
  refine all_id fun x hx => ?_
  obtain ⟨y, hy, rfl⟩ := List.mem_map.mp hx
  obtain ⟨m, hm, rfl⟩ := List.mem_map.mp hy
  refine all_id fun x hx => ?_
  obtain ⟨y, hy, rfl⟩ := List.mem_map.mp hx
  obtain ⟨e, he, rfl⟩ := List.mem_map.mp hy
  have := ((h m hm).2 e he).1
  exact decide_eq_true (show ((e.1 : Nat) : Int) ≤ (u : Int) by omega)
theorem ok_sessD {d p : Nat} {s : Nat × StoryT} (h : FSess d p s) (b : s.2.length ≤ 40) : sessD d p (sessP s) = true := by
  show ((numD (intP s.1) 0 ((d : Int) - 1) && okS (storyD d p (storyP s.2))) && storyLowD (intD (intP s.1)) (storyP s.2)) = true
  rw [numD_nat (by have := h.1; omega), ok_storyD (d := d) h.2 h.1 b, low_story h.2]
  rfl
theorem len_le : ∀ {L : LifeT} {s : Nat × StoryT}, s ∈ L → s.2.length ≤ lenT L
  | x :: r, s, h => by
    have e : lenT (x :: r) = x.2.length + lenT r := by simp [lenT]
    rw [e]
    rcases List.mem_cons.mp h with rfl | z
    · omega
    · have := len_le z
      omega
theorem life_good {d p : Nat} {L : LifeT} (h : FineL d p L) : ∃ l, lifeD d p (lifeP L) = some l ∧ GoodL l l.length := by
  refine ⟨(L.map sessP).map fun s => (sessD d p s, sessLen s), if_pos ?_, ?_⟩
  · have := h.one
    have := h.six
    rw [List.length_map]
    omega
  · have lens : ((L.map sessP).map fun s => (sessD d p s, sessLen s)).map (·.2) = L.map fun s => s.2.length := by
      rw [List.map_map, List.map_map]
      refine List.map_congr_left fun s _ => ?_
      show ((s.2.map momP).length) = s.2.length
      rw [List.length_map]
    unfold GoodL
    rw [List.take_length, lens]
    refine ⟨List.all_eq_true.mpr fun x hx => ?_, ?_⟩
    · obtain ⟨y, hy, rfl⟩ := List.mem_map.mp hx
      obtain ⟨z, hz, rfl⟩ := List.mem_map.mp hy
      have := len_le hz
      have := h.len
      exact ok_sessD (h.sess z hz) (by omega)
    · have := h.len
      unfold lenT at this
      omega
theorem fine_cut {d p : Nat} {L : LifeT} (h : FineL d p L) : CutOk L := ⟨fun s hs => ⟨by
  have := len_le hs
  have := h.len
  omega, fun m hm => by have := ((h.sess s hs).2 m hm).1; omega⟩, by have := h.six; omega⟩
theorem last_lt {d p : Nat} {L : LifeT} (h : RunL d p L) (ne : L ≠ []) : lastOf L < d := by
  obtain ⟨s, hs, e⟩ := last_at ne
  rw [← e]
  exact (h.sess s (List.mem_of_getElem? hs)).1
theorem life_run {d p : Nat} {L : LifeT} (h : FineL d p L) : RunL d p L := by
  refine ⟨by have := h.six; omega, fun s hs => ?_, by have := h.len; omega⟩
  obtain ⟨h1, h2⟩ := h.sess s hs
  refine ⟨h1, fun m hm => ?_⟩
  obtain ⟨h3, h4⟩ := h2 m hm
  exact ⟨by omega, fun x hx => ⟨(h4 x hx).1, (h4 x hx).2.1⟩⟩
theorem way_ok (w : Way) : wayOk (.str (wayS w)) = true := by cases w <;> decide +kernel
theorem coin_pair {K : PySem.W.Frag} {H : Hp} {t : Nat} : ∀ {ys : List V}, (∀ y ∈ ys, ∃ s, KindV K H y s) → Paired (CoinV K H t) ys (ys.map fun v => isNum v 0 ((t : Int) - 1))
  | [], _ => .nil
  | y :: ys, h => .cons (let ⟨s, q⟩ := h y List.mem_cons_self; .mk q) (coin_pair fun z hz => h z (List.mem_cons_of_mem _ hz))
/-! ### what a call of the law is of -/
structure RunOf (tb : Tb) (hs lf cf : Addr) (n k d p c : Nat) (L : LifeT) (cn : List Nat) (H : Hp) : Prop where
  I : InP hs lf cf n k d p c L cn tb.o H
  ok : FineL d p L
  m : GxR.TabG H tb.m
  s : GxR.TabG H tb.s
  n : GxR.TabG H tb.n
  p : GxR.TabG H tb.p
  u : GxR.TabG H tb.u
  a : GxR.TabG H tb.a
section
variable {K : PySem.W.Frag} {S : Addr → Prop} {H H1 : Hp} {cs : Cs} {tb : Tb} {hs lf cf : Addr} {n k d p c : Nat} {L : LifeT} {cn : List Nat} {w : Way} {C : Addr} {Q : VK} {E : XK}
theorem RunOf.kl (R : RunOf tb hs lf cf n k d p c L cn H) (e : Kl S H H1) : RunOf tb hs lf cf n k d p c L cn H1 :=
  { R with I := { R.I with hh := R.I.hh.ks e, tv := R.I.tv.mv (fun _ _ h => e.t _ _ h), hcf := e.t _ _ R.I.hcf, tb := e.g _ R.I.tb }, m := e.g _ R.m, s := e.g _ R.s, n := e.g _ R.n, p := e.g _ R.p, u := e.g _ R.u, a := e.g _ R.a }
theorem RunOf.ks (R : RunOf tb hs lf cf n k d p c L cn H) (e : Ks K H H1) : RunOf tb hs lf cf n k d p c L cn H1 := R.kl e
theorem RunOf.ex (R : RunOf tb hs lf cf n k d p c L cn H) (e : Ex H H1) : RunOf tb hs lf cf n k d p c L cn H1 := R.kl (S := fun _ => False) (Kl.ex e)
theorem sess_of (R : RunOf tb hs lf cf n k d p c L cn H) : SessOf H tb lf (lenT L) := by
  have tv := R.I.tv
  have ol := R.ok.len
  have tn := R.n
  clear R
  obtain ⟨ss, hl, all⟩ := tv_ref tv
  refine ⟨⟨ss, L.map fun s => s.2.length, hl, ?_, rfl, by omega⟩, tn⟩
  clear hl tv ol
  induction L generalizing ss with
  | nil =>
    cases all
    exact .nil
  | cons x L ih =>
    cases all with
    | cons h1 h2 =>
      obtain ⟨t, u, us, rfl, g1, g2, g3⟩ := tv_sess h1
      exact .cons ⟨t, _, u, us, rfl, g1, g2, by rw [g3.len, List.length_map]⟩ (ih _ h2)
theorem asc_times {m : Nat} : ∀ {ts : List Nat} {b : Nat}, ts.Pairwise (· < ·) → (∀ t ∈ ts, b ≤ t ∧ t ≤ m) → timesB (m : Nat) (b : Nat) (ts.map iV) = true
  | [], _, _, _ => rfl
  | t :: ts, b, h, g => by
    obtain ⟨h1, h2⟩ := List.pairwise_cons.mp h
    obtain ⟨g1, g2⟩ := g t List.mem_cons_self
    show (isNum (iV t) (b : Nat) (m : Nat) && timesB (m : Nat) (intV (iV t) + 1) (ts.map iV)) = true
    have e : isNum (iV t) (b : Nat) (m : Nat) = true := by
      show (decide ((b : Int) ≤ (t : Int)) && decide ((t : Int) ≤ (m : Int))) = true
      rw [decide_eq_true (show (b : Int) ≤ (t : Int) by omega), decide_eq_true (show (t : Int) ≤ (m : Int) by omega)] <;> rfl
    rw [e, Bool.true_and]
    have := asc_times (m := m) (ts := ts) (b := t + 1) h2 fun x hx => ⟨h1 x hx, (g x (List.mem_cons_of_mem _ hx)).2⟩
    exact this
theorem p_times (R : RunOf tb hs lf cf n k d p c L cn H) {tt : Addr} {ts : List Nat} (ht : H tt = some (.tup (ts.map iV))) (ne : ts ≠ []) (tl : ts.length ≤ 1000) (asc : ts.Pairwise (· < ·)) (le : ∀ t ∈ ts, t ≤ lenT L) : Pass K (spTimes K cs.Z tb.n) [.ref lf, .ref tt] H := fun Q E h => by
  obtain ⟨ss, ls, h1, h2, h3, h4⟩ := (sess_of R).go
  refine ⟨lf, .ref tt, "tuple", ss, ls, rfl, h1, h2, by omega, R.n, .tup ht, fun z => (by cases z), fun t xs e1 e2 => ?_⟩
  cases e1
  rw [ht] at e2
  cases e2
  have good : timesB (ls.sum : Nat) 0 (ts.map iV) = true := by
    rw [h3]
    exact asc_times (b := 0) asc fun t hx => ⟨Nat.zero_le _, le t hx⟩
  refine ⟨by rw [List.length_map]; exact tl, fun x hx G => ?_, fun _ _ => h, fun z H' k' => ?_⟩
  · obtain ⟨y, _, rfl⟩ := List.mem_map.mp hx
    exact ⟨_, .int _⟩
  · rcases z with z | z
    · exact absurd (List.map_eq_nil_iff.mp z) ne
    · rw [good] at z
      cases z
theorem pass_life (R : RunOf tb hs lf cf n k d p c L cn H) : Pass K (spLife K cs.L tb.m tb.s) [.ref hs, .ref lf] H := by
  obtain ⟨l, e, g⟩ := life_good R.ok
  have lv := dv_life (K := K) (d := d) (p := p) (Tv.dv (lf + 1) _ _ R.I.tv)
  rw [e] at lv
  exact p_life R.I.hh ⟨lv, R.m, R.s⟩ g
theorem pass_coins (R : RunOf tb hs lf cf n k d p c L cn H) : Pass K (spCoins K cs.C tb.n) [.ref hs, .ref lf, .ref cf] H := by
  refine p_coins R.I.hh (sess_of R) (.tup R.I.hcf (by rw [List.length_map]; exact R.I.cl) (coin_pair fun y hy => ?_)) ?_
  · obtain ⟨z, _, rfl⟩ := List.mem_map.mp hy
    exact ⟨_, .int _⟩
  · refine all_id fun x hx => ?_
    obtain ⟨y, hy, rfl⟩ := List.mem_map.mp hx
    obtain ⟨z, hz, rfl⟩ := List.mem_map.mp hy
    exact num_in (R.I.co z hz)
theorem pass_run (R : RunOf tb hs lf cf n k d p c L cn H) (w : Way) : Pass K (sp_check_run K cs tb) [.ref hs, .str (wayS w), .ref lf, .ref cf] H := fun Q E h =>
  ⟨_, _, _, _, rfl, p_house R.I.hh _ _ fun H1 k1 => pass_life (R.ks k1) _ _ fun H2 k2 => p_way (way_ok w) _ _ fun H3 k3 => pass_coins (((R.ks k1).ks k2).ks k3) _ _ fun H4 k4 => h H4 (((k1.trans k2).trans k3).trans k4)⟩
/-! #### the calls -/
theorem go_view (R : RunOf tb hs lf cf n k d p c L cn H) {u : Nat} {tt : Addr} {ts : List Nat} (hu : u < d) (ht : H tt = some (.tup (ts.map iV))) (ne : ts ≠ []) (tl : ts.length ≤ 1000) (asc : ts.Pairwise (· < ·)) (le : ∀ t ∈ ts, t ≤ lenT L)
    (q : ∀ v H', Tv H' v (.tuple ((viewT n u (runT n w p c (setOf n k cn) L).2 ts).map histP)) → Ks K H H' → Q v H') : sp_view K cs tb [.ref hs, .str (wayS w), .ref lf, .ref cf, iV u, .ref tt] H Q E :=
  ⟨_, _, _, _, _, _, rfl, pass_run R w _ _ fun H1 k1 => p_chk (R.ks k1).I.hh (.int _) (num_in hu) _ _ fun H2 k2 => p_times ((R.ks k1).ks k2) ((k1.trans k2).t _ _ ht) ne tl asc le _ _ fun H3 k3 =>
    have kk := (k1.trans k2).trans k3
    ⟨hs, lf, cf, tt, n, k, d, p, c, w, L, cn, u, ts, rfl, (R.ks kk).I, (R.ks kk).p, kk.t _ _ ht, ne, tl, le, fun v H' tv ks => q v H' tv (kk.trans ks)⟩⟩
theorem go_looks (R : RunOf tb hs lf cf n k d p c L cn H) {u : Nat} (hu : u < d) (q : ∀ v H', Tv H' v (.tuple ((viewT n u (runT n w p c (setOf n k cn) L).2 (List.range (lenT L + 1))).map histP)) → Ks K H H' → Q v H') : sp_looks K cs tb [.ref hs, .str (wayS w), .ref lf, .ref cf, iV u] H Q E :=
  ⟨_, _, _, _, _, rfl, pass_run R w _ _ fun H1 k1 => p_chk (R.ks k1).I.hh (.int _) (num_in hu) _ _ fun H2 k2 =>
    ⟨hs, lf, cf, n, k, d, p, c, w, L, cn, u, rfl, ((R.ks k1).ks k2).I, ((R.ks k1).ks k2).p, fun v H' tv ks => q v H' tv ((k1.trans k2).trans ks)⟩⟩
theorem key_in {i : Nat} (h : i ≤ lastOf L) : isNum (iV i) 0 ((lastOf L : Nat) : Int) = true := by
  rw [isNum_nat, decide_eq_true (show (0 : Int) ≤ (i : Int) by omega), decide_eq_true (show ((i : Nat) : Int) ≤ (lastOf L : Int) by omega)]
  rfl
theorem pass_key (R : RunOf tb hs lf cf n k d p c L cn H) {i : Nat} (h : i ≤ lastOf L) : Pass K (spKey K cs.D) [.ref hs, .ref lf, iV i] H := fun Q E g =>
  ⟨hs, lf, n, k, d, p, c, L, iV i, _, rfl, R.I.hh, R.I.tv, R.I.ne, last_lt R.I.ok R.I.ne, .int _, fun _ => g H Ks.refl, fun z => by rw [key_in h] at z; cases z⟩
theorem go_read (R : RunOf tb hs lf cf n k d p c L cn H) {dr pg : Nat} (hd : dr ≤ lastOf L) (hp : pg < p) (q : ∀ v H', Tv H' v (optP ((runT n w p c (setOf n k cn) L).1.known dr pg)) → Ks K H H' → Q v H') : sp_read K C cs tb [.ref hs, .str (wayS w), .ref lf, .ref cf, iV dr, iV pg] H Q E :=
  ⟨_, _, _, _, _, _, rfl, pass_run R w _ _ fun H1 k1 => pass_key (R.ks k1) hd _ _ fun H2 k2 => p_chk ((R.ks k1).ks k2).I.hh (.int _) (num_in hp) _ _ fun H3 k3 =>
    ⟨hs, lf, cf, n, k, d, p, c, w, L, cn, dr, pg, rfl, (((R.ks k1).ks k2).ks k3).I, fun v H' tv ks => q v H' tv (((k1.trans k2).trans k3).trans ks)⟩⟩
theorem go_waiting (R : RunOf tb hs lf cf n k d p c L cn H) {dr : Nat} (hd : dr ≤ lastOf L) (q : ∀ v H', Tv H' v (.tuple (((runT n w p c (setOf n k cn) L).1.rows.getD dr []).map intP)) → Ks K H H' → Q v H') : sp_waiting K cs tb [.ref hs, .str (wayS w), .ref lf, .ref cf, iV dr] H Q E :=
  ⟨_, _, _, _, _, rfl, pass_run R w _ _ fun H1 k1 => pass_key (R.ks k1) hd _ _ fun H2 k2 =>
    ⟨hs, lf, cf, n, k, d, p, c, w, L, cn, dr, rfl, ((R.ks k1).ks k2).I, hd, fun v H' tv ks => q v H' tv ((k1.trans k2).trans ks)⟩⟩
theorem go_places (R : RunOf tb hs lf cf n k d p c L cn H) {dr : Nat} (hd : dr ≤ lastOf L) (q : ∀ v H' (l : List (Nat × Nat)), Tv H' v (.tuple (l.map pairP)) → l.Perm (placesT (runT n w p c (setOf n k cn) L).1.known (runT n w p c (setOf n k cn) L).1.cells dr n) → l.Pairwise ple → Ks K H H' → Q v H') : sp_places K cs tb [.ref hs, .str (wayS w), .ref lf, .ref cf, iV dr] H Q E :=
  ⟨_, _, _, _, _, rfl, pass_run R w _ _ fun H1 k1 => pass_key (R.ks k1) hd _ _ fun H2 k2 =>
    ⟨hs, lf, cf, n, k, d, p, c, w, L, cn, dr, rfl, ((R.ks k1).ks k2).I, fun v H' l tv pm pw ks => q v H' l tv pm pw ((k1.trans k2).trans ks)⟩⟩
theorem go_later (R : RunOf tb hs lf cf n k d p c L cn H) {dr pg : Nat} (hd : dr < d) (hp : pg < p) (q : ∀ v H', Tv H' v (optP (knownOf (d - 1) (runT n w p c (setOf n k cn) L).1.cells dr pg)) → Ks K H H' → Q v H') : sp_later K cs tb [.ref hs, .str (wayS w), .ref lf, .ref cf, iV dr, iV pg] H Q E :=
  ⟨_, _, _, _, _, _, rfl, pass_run R w _ _ fun H1 k1 => p_chk (R.ks k1).I.hh (.int _) (num_in hd) _ _ fun H2 k2 => p_chk ((R.ks k1).ks k2).I.hh (.int _) (num_in hp) _ _ fun H3 k3 =>
    ⟨hs, lf, cf, n, k, d, p, c, w, L, cn, dr, pg, rfl, (((R.ks k1).ks k2).ks k3).I, fun v H' tv ks => q v H' tv (((k1.trans k2).trans k3).trans ks)⟩⟩
theorem go_upper (R : RunOf tb hs lf cf n k d p c L cn H) {u : Nat} (hu : u < d) (q : ∀ (t : Addr) H', Tv H' (.ref t) (lifeP (upT u L)) → Ks K H H' → Q (.ref t) H') : sp_upper K cs tb [.ref hs, .ref lf, iV u] H Q E :=
  ⟨_, _, _, rfl, p_house R.I.hh _ _ fun H1 k1 => pass_life (R.ks k1) _ _ fun H2 k2 => p_chk ((R.ks k1).ks k2).I.hh (.int _) (num_in hu) _ _ fun H3 k3 =>
    have R3 := ((R.ks k1).ks k2).ks k3
    ⟨lf, L, u, rfl, R3.I.tv, (fine_cut R.ok).s, (fine_cut R.ok).l, R3.u, R3.a, fun t H' tv k4 => q t H' tv (((k1.trans k2).trans k3).trans k4)⟩⟩
theorem go_parted (R : RunOf tb hs lf cf n k d p c L cn H) {u : Nat} {b : Bool} (hu : u < d) (q : ∀ H', Ks K H H' → Q (.bl false) H') : sp_parted K cs tb [.ref hs, .str (wayS .tru), .ref lf, .ref cf, iV u, .bl b] H Q E :=
  ⟨_, _, _, _, _, _, rfl, pass_run R .tru _ _ fun H1 k1 => p_chk (R.ks k1).I.hh (.int _) (num_in hu) _ _ fun H2 k2 =>
    have R2 := (R.ks k1).ks k2
    ⟨b, rfl, hs, lf, cf, n, k, d, p, c, L, cn, u, b, rfl, R2.I, fine_cut R.ok, R2.p, R2.u, R2.a, fun H' k3 => q H' ((k1.trans k2).trans k3)⟩⟩
end
end K04

set_option maxHeartbeats 4000000
namespace K04
open PySem PySem.Spec PyProof.Rows L2 Hd Evl
theorem deed_lay (x : DeedT) : (deedP x).canLay0 = true := rfl
theorem mom_lay (m : MomT) : (momP m).canLay0 = true := lay_map deed_lay m
theorem sess_lay (s : Nat × StoryT) : (sessP s).canLay0 = true := by
  have := lay_map mom_lay s.2
  show (PyData.canLayAll0 [intP s.1, storyP s.2]) = true
  show (true && (PyData.canLayAll0 (s.2.map momP) && true)) = true
  rw [this] <;> rfl
theorem deed_dep (x : DeedT) : PyData.depth (deedP x) ≤ 1 := Nat.le_of_eq rfl
theorem mom_dep (m : MomT) : PyData.depth (momP m) ≤ 2 := by
  have := dep_map deed_dep m
  unfold momP
  simp only [PyData.depth]
  omega
theorem sess_dep (s : Nat × StoryT) : PyData.depth (sessP s) ≤ 4 := by
  have := dep_map mom_dep s.2
  unfold sessP storyP
  simp only [PyData.depth, PyData.depthAll, intP]
  omega
theorem shaped_life (L : LifeT) : SeqAt.shaped (lifeP L) = true := by
  have a := lay_map sess_lay L
  have b := dep_map sess_dep L
  unfold SeqAt.shaped
  rw [Bool.and_eq_true]
  refine ⟨a, decide_eq_true ?_⟩
  unfold lifeP
  simp only [PyData.depth]
  omega
section
variable {K : PySem.W.Frag} {H H1 : Hp} {cs : Cs} {tb : Tb} {hs lf lf' cf : Addr} {n k d p c u : Nat} {L M : LifeT} {cn : List Nat} {Q : VK} {E : XK}
theorem go_alike (R : RunOf tb hs lf cf n k d p c L cn H) (R' : RunOf tb hs lf' cf n k d p c M cn H) (hu : u < d) (e : upT u L = upT u M) (q : ∀ H', Ks K H H' → Q (.bl true) H') : sp_alike_above K cs tb [.ref hs, .ref lf, .ref lf', iV u] H Q E :=
  ⟨_, _, _, _, rfl, p_house R.I.hh _ _ fun H1 k1 => pass_life (R.ks k1) _ _ fun H2 k2 => pass_life ((R'.ks k1).ks k2) _ _ fun H3 k3 => p_chk (((R.ks k1).ks k2).ks k3).I.hh (.int _) (num_in hu) _ _ fun H4 k4 =>
    have kk := ((k1.trans k2).trans k3).trans k4
    have R4 := R.ks kk
    ⟨lf, L, u, rfl, R4.I.tv, (fine_cut R4.ok).s, (fine_cut R4.ok).l, R4.u, R4.a, fun t H5 tv5 k5 =>
      have R5 := R'.ks (kk.trans k5)
      ⟨lf', M, u, rfl, R5.I.tv, (fine_cut R5.ok).s, (fine_cut R5.ok).l, R5.u, R5.a, fun t2 H6 tv6 k6 =>
        ⟨lifeP (upT u L), lifeP (upT u L), (tv5.mv (ks_kt k6)).dp' K, (e ▸ tv6 : Tv H6 (.ref t2) (lifeP (upT u L))).dp' K, shaped_life _, shaped_life _, by
          rw [SeqAt.eqv_refl _ (SeqAt.canLay_of_shaped (shaped_life _))]
          exact q H6 ((kk.trans k5).trans k6)⟩⟩⟩⟩
end
end K04

set_option maxHeartbeats 4000000
namespace K04
open PySem PySem.Spec PyProof.Rows L2 Hd Evl
/-! ### the law's other life -/
/-- a session told from s by more beneath -/
structure FromS (u d p : Nat) (s s' : Nat × StoryT) : Prop where
  lt : s'.1 < d
  mn : min s'.1 u = s.1
  up : s'.2.map (upM u) = s.2
  ok : ∀ m ∈ s'.2, FMom s'.1 p m
theorem upM_id {u : Nat} {m : MomT} (h : ∀ x ∈ m, x.1 ≤ u) : upM u m = m := List.filter_eq_self.mpr fun x hx => decide_eq_true (h x hx)
theorem upM_ins {u i : Nat} {m : MomT} {x : DeedT} (h : ∀ y ∈ m, y.1 ≤ u) (hx : ¬ x.1 ≤ u) : upM u (m.take i ++ [x] ++ m.drop i) = m := by
  unfold upM
  rw [List.filter_append, List.filter_append, List.filter_cons, if_neg (by simpa using hx), List.filter_nil, List.append_nil, ← List.filter_append, List.take_append_drop]
  exact upM_id h
theorem seq_cut {t u : TS} {D : Ends} {σ : L2.St} {H : Hp} (W : L2.St → Hp → Prop) (h : ∀ n' : L2.St → Hp → Prop, (∀ σ G, W σ G → n' σ G) → t { D with nx := n' } σ H) (g : ∀ σ G, W σ G → u D σ G) : tSeq t u D σ H := h _ g
theorem tvTake {H : Hp} : ∀ {vs : List V} {ds : List PyData} (i : Nat), TvAll H vs ds → TvAll H (vs.take i) (ds.take i)
  | _, _, 0, _ => .nil
  | _, _, _ + 1, .nil => .nil
  | _, _, i + 1, .cons h t => .cons h (tvTake i t)
theorem tvDrop {H : Hp} : ∀ {vs : List V} {ds : List PyData} (i : Nat), TvAll H vs ds → TvAll H (vs.drop i) (ds.drop i)
  | _, _, 0, h => h
  | _, _, _ + 1, .nil => .nil
  | _, _, i + 1, .cons _ t => tvDrop i t
theorem kq_new {r D : Addr} {G G3 : Hp} {o : HO} (k : Kx (fun b => b = r ∨ b = D) (upd G D o) G3) (n : G D = none) : Kq r G G3 := fun b x nr h =>
  k b x (fun z => z.elim nr fun e => by rw [e, n] at h; cases h) (by rw [upd_ne (ne_of_none h n)]; exact h)
theorem kx_of {r D : Addr} {G G' : Hp} (k : Kq r G G') : Kx (fun b => b = r ∨ b = D) G G' := fun b o nb h => k b o (fun z => nb (.inl z)) h
structure OthP (K : PySem.W.Frag) (vs : List V) (H : Hp) (Q : VK) : Prop where
  go : ∃ (r a hs lf : Addr) (ns : List Int) (n k d p c u : Nat) (L : LifeT), vs = [.ref r, .ref hs, .ref lf, iV u] ∧ Rw K r a ns H ∧ HouseAt H hs n k d p c ∧ Tv H (.ref lf) (lifeP L) ∧ FineL d p L ∧ u < d ∧
  ∀ (t : Addr) (M : LifeT) H', Tv H' (.ref t) (lifeP M) → FineL d p M → upT u M = upT u L → Kq r H H' → Rw K r a ns H' → Q (.ref t) H'
def spOth (K : PySem.W.Frag) : Sp := fun vs H Q _ => OthP K vs H Q
section
variable {CX : CXT} {P : Program} {w : World} {K : PySem.W.Frag} {mg : Str → Option Value} {base : Heap}
theorem ok_other {f fT fU : Addr} {fd dT dU : FuncData} (F : FnP K "_law_other" s__law_other f fd) (B : Blt mg) (T : TakenF P w K mg base fT dT) (U : Fn P w K mg base CX0 1 "_law_upper" ["life", "drawer"] spUpL fU dU) : FnOk P w K mg base CX 2 f fd ["row", "house", "life", "drawer"] (spOth K) := by
  refine F.ok (CX := CX) sc__law_other (fun vs H Q E h => ?_) (fun cdv A outer s H vs Q E hr h => ?_)
  · obtain ⟨r, a, hs, lf, ns, n, k, d, p, c, u, L, rfl, _⟩ := h
    rfl
  · obtain ⟨r, a, hs, lf, ns, n, k, d, p, c, u, L, rfl, W, hh, tv, ok, hu, q⟩ := h
    refine ⟨_, (pss_cons (ps_set (i := 4) sc__law_other.nd rfl (Or.inl rfl) (pe_lst pa_nil))
      (pss_cons (ps_for (passes_of rfl) rfl (pi_tup (pe_call U.G hr (by rfl) U.m U.k U.b .nil pass0 (pa_cons (pv 2) (pa_cons (pv 3) pa_nil)))) (pg_tup rfl (pgs_cons (pg_name (i := 5) sc__law_other.nd rfl (Or.inl rfl)) (pgs_cons (pg_name (i := 6) sc__law_other.nd rfl (Or.inl rfl)) pgs_nil)))
        (pss_cons (ps_set (i := 5) sc__law_other.nd rfl (Or.inl rfl) (pe_ifExp (pt_cmpR op_eq (pv 5) (pv 3) (nomark _)) (pe_op op_add (pv 3) (pe_call T.G hr (by rfl) T.m T.k T.b .nil pass0 (pa_cons (pv 0) (pa_cons (pe_op op_sub (pe_ix ix_tup (pv 1) pe_int (fun _ _ => rfl)) (pv 3)) pa_nil)))) (pv 5)))
        (pss_cons (ps_set (i := 7) sc__law_other.nd rfl (Or.inl rfl) (pe_lst pa_nil))
        (pss_cons (ps_for (passes_of rfl) rfl (pi_tup (pv 6)) (pg_name (i := 8) sc__law_other.nd rfl (Or.inl rfl))
          (pss_cons (ps_set (i := 9) sc__law_other.nd rfl (Or.inl rfl) (pe_callTy call_list_of (by rfl) B.list (by decide +kernel) (pa_cons (pv 8) pa_nil)))
          (pss_cons (ps_if (PW.pt (pw_and (pt_cmpR op_gt (pv 5) (pv 3) (nomark _)) (pw_and1 (pt_cmpR op_lt (pe_callB call_len_seq (by rfl) B.len (by decide +kernel) (pa_cons (pv 9) pa_nil)) pe_int (nomark _)))))
            (pss_one (ps_expr (pe_bm PySem.F.plainAttrs_list PySem.F.slot_list_insert PySem.F.type_list_insert mt_insert (pv 9) (pa_cons (pe_call T.G hr (by rfl) T.m T.k T.b .nil pass0 (pa_cons (pv 0) (pa_cons (pe_op op_add (pe_callB call_len_seq (by rfl) B.len (by decide +kernel) (pa_cons (pv 9) pa_nil)) pe_int) pa_nil)))
              (pa_cons (pe_tup (pa_cons (pe_op op_add (pe_op op_add (pv 3) pe_int) (pe_call T.G hr (by rfl) T.m T.k T.b .nil pass0 (pa_cons (pv 0) (pa_cons (pe_op op_sub (pv 5) (pv 3)) pa_nil)))) (pa_cons (pe_call T.G hr (by rfl) T.m T.k T.b .nil pass0 (pa_cons (pv 0) (pa_cons (pe_ix ix_tup (pv 1) pe_int (fun _ _ => rfl)) pa_nil))) (pa_cons (pe_call T.G hr (by rfl) T.m T.k T.b .nil pass0 (pa_cons (pv 0) (pa_cons pe_int pa_nil))) pa_nil)))) pa_nil))))) pss_nil)
          (pss_one (ps_expr (pe_bm PySem.F.plainAttrs_list PySem.F.slot_list_append PySem.F.type_list_append mt_append (pv 7) (pa_cons (pe_callTy call_tuple_of (by rfl) B.tuple (by decide +kernel) (pa_cons (pv 9) pa_nil)) pa_nil)))))))
        (pss_one (ps_expr (pe_bm PySem.F.plainAttrs_list PySem.F.slot_list_append PySem.F.type_list_append mt_append (pv 4) (pa_cons (pe_tup (pa_cons (pv 5) (pa_cons (pe_callTy call_tuple_of (by rfl) B.tuple (by decide +kernel) (pa_cons (pv 7) pa_nil)) pa_nil))) pa_nil))))))))
      (pss_one (ps_ret (pe_callTy call_tuple_of (by rfl) B.tuple (by decide +kernel) (pa_cons (pv 4) pa_nil)))))), ?_⟩
    have d4 := hh.d4
    have p6 := hh.p6
    have p1 := hh.p1
    refine ⟨Nat.zero_le _, fun F0 nF => ?_⟩
    have eF := Ex.new (o := HO.lst []) nF
    refine ⟨.ref lf, rfl, iV u, rfl, lf, L, u, rfl, tv.mv (Kt.ex eF), (fine_cut ok).s, (fine_cut ok).l, fun t1 H1 tv1 e1 => ?_⟩
    have e01 := eF.trans e1
    have W1 := W.ex e01
    have gF1 := e1 _ _ (show upd H F0 (HO.lst []) F0 = some (.lst []) from upd_same)
    have nFr : F0 ≠ r := W.ne nF
    have hh1 := hh.ex e01
    obtain ⟨ss, hss, all⟩ := tv_ref tv1
    have hl : ss.length = (upT u L).length := by rw [all.len, List.length_map]
    have okU := fine_up (u := u) ok
    refine ⟨t1, rfl, ⟨ss, SqT.of hss⟩, ?_⟩
    refine for_tup (xs := ss) (fun i σ G => ∃ (ms : LifeT) (ws : List V) (y5 y6 y7 y8 y9 : Option V), σ = [some (.ref r), some (.ref hs), some (.ref lf), some (iV u), some (.ref F0), y5, y6, y7, y8, y9] ∧ ms.length = i ∧ upT u ms = (upT u L).take i ∧ (∀ s ∈ ms, FSess d p s) ∧ G F0 = some (.lst ws) ∧ TvAll G ws (ms.map sessP) ∧ Kx (fun b => b = r ∨ b = F0) H1 G ∧ Rw K r a ns G)
      ⟨[], [], none, none, none, none, none, rfl, rfl, rfl, (fun _ h => by cases h), gF1, .nil, Kx.refl, W1⟩ (fun i σ G _ w => by
        obtain ⟨_, _, _, _, _, _, _, _, _, _, _, _, _, kx, _⟩ := w
        exact SqT.of (kx _ _ (fun z => z.elim (fun e => W1.notup _ (e ▸ hss)) fun e => by rw [e, gF1] at hss; cases hss) hss)) (fun i v σ G hx w => ?_) (fun σ G w => ?_)
    · obtain ⟨ms, ws, y5, y6, y7, y8, y9, rfl, ml, mu, mo, gF, tvw, kx, WG⟩ := w
      have kt1 : Kt H1 G := kx.kt fun b z xs h => z.elim (fun e => W1.notup _ (e ▸ h)) fun e => by rw [e, gF1] at h; cases h
      obtain ⟨sx, hsx, tvx⟩ := tv_at all hx
      have il : i < (upT u L).length := (List.getElem?_eq_some_iff.mp hsx).1
      obtain ⟨slt, sok⟩ := okU.sess sx (List.mem_of_getElem? hsx)
      have sl40 : sx.2.length ≤ 40 := by have := len_le (List.mem_of_getElem? hsx); have := okU.len; omega
      have i6 : i < 6 := by have := okU.six; omega
      have su : sx.1 ≤ u := by
        obtain ⟨s0, _, e⟩ := List.mem_map.mp (List.mem_of_getElem? hsx)
        rw [← e]
        exact Nat.min_le_right _ _
      obtain ⟨tt, suA, us, rfl, h1, h2, h3⟩ := tv_sess (tvx.mv kt1)
      have hul : us.length = sx.2.length := by rw [h3.len, List.length_map]
      have hhG : HouseAt G hs n k d p c := { hh1 with at_ := kt1 _ _ hh1.at_ }
      refine ⟨tt, _, rfl, SqT.of h1, rfl, _, _, rfl, _, _, rfl, rfl, ?_⟩
      dsimp only [gName]
      -- how deep the session goes
      refine seq_cut (fun σ G2 => ∃ (dp : Nat), σ = [some (.ref r), some (.ref hs), some (.ref lf), some (iV u), some (.ref F0), some (iV dp), some (.ref suA), y7, y8, y9] ∧ dp < d ∧ min dp u = sx.1 ∧ Kq r G G2 ∧ Rw K r a ns G2) (fun n' hn => ?_) (fun σ G2 w => ?_)
      · refine ⟨iV sx.1, rfl, iV u, rfl, rfl, _, rfl, ite2 (fun c1 => ?_) (fun c1 => ?_)⟩
        · have eq : sx.1 = u := by have := of_decide_eq_true c1; injection this with this; exact Int.ofNat.inj this
          refine ⟨iV u, rfl, .ref r, rfl, .ref hs, rfl, hs, _, _, iV d, rfl, rfl, SqT.of hhG.at_, atI_nat (j := 2) rfl, iV u, rfl, _, _, rfl, rfl, taken_of (m := d - u) WG (by show ((d : Int) - (u : Int)) = _; omega) (by omega) (by omega) fun y Ga ly k1 W2 => ?_⟩
          exact ⟨_, _, rfl, rfl, hn _ _ ⟨u + y, rfl, by omega, by omega, k1, W2⟩⟩
        · exact ⟨iV sx.1, rfl, hn _ _ ⟨sx.1, rfl, slt, by omega, fun _ _ _ h => h, WG⟩⟩
      · obtain ⟨dp, rfl, dl, dm, k2, W2⟩ := w
        have kt2 := k2.kt WG
        have hh2 := hhG.kq WG k2
        refine ⟨Nat.zero_le _, fun Mo nMo => ?_⟩
        have eM := Ex.new (o := HO.lst []) nMo
        have WM := W2.ex eM
        have nMr : Mo ≠ r := W2.ne nMo
        have h2M := eM _ _ (kt2 _ _ h2)
        have h3M := (h3.mv kt2).mv (Kt.ex eM)
        refine ⟨.ref suA, rfl, suA, rfl, ⟨us, SqT.of h2M⟩, ?_⟩
        refine for_tup (xs := us) (fun j σ G3 => ∃ (mm : StoryT) (ws2 : List V) (y8 y9 : Option V), σ = [some (.ref r), some (.ref hs), some (.ref lf), some (iV u), some (.ref F0), some (iV dp), some (.ref suA), some (.ref Mo), y8, y9] ∧ mm.length = j ∧ mm.map (upM u) = sx.2.take j ∧ (∀ m ∈ mm, FMom dp p m) ∧ G3 Mo = some (.lst ws2) ∧ TvAll G3 ws2 (mm.map momP) ∧ Kx (fun b => b = r ∨ b = Mo) (upd G2 Mo (.lst [])) G3 ∧ Rw K r a ns G3)
          ⟨[], [], y8, y9, rfl, rfl, rfl, (fun _ h => by cases h), upd_same, .nil, Kx.refl, WM⟩ (fun j σ G3 _ w => by
            obtain ⟨_, _, _, _, _, _, _, _, _, _, k3, _⟩ := w
            exact SqT.of (k3 _ _ (fun z => z.elim (fun e => WM.notup _ (e ▸ h2M)) fun e => by rw [e, upd_same] at h2M; cases h2M) h2M)) (fun j v σ G3 hx w => ?_) (fun σ G3 w => ?_)
        · obtain ⟨mm, ws2, y8, y9, rfl, nl, mu2, mo2, gM, tv2, k3, W3⟩ := w
          have kt3 : Kt (upd G2 Mo (.lst [])) G3 := k3.kt fun b z xs h => z.elim (fun e => WM.notup _ (e ▸ h)) fun e => by rw [e, upd_same] at h; cases h
          have hh3 : HouseAt G3 hs n k d p c := { hh2 with at_ := kt3 _ _ (eM _ _ hh2.at_) }
          obtain ⟨m, hm, tvm⟩ := tv_at h3M hx
          have jl : j < sx.2.length := (List.getElem?_eq_some_iff.mp hm).1
          obtain ⟨m6, mok⟩ := sok m (List.mem_of_getElem? hm)
          have mlow : ∀ x ∈ m, x.1 ≤ u := fun x hx => Nat.le_trans (mok x hx).1 su
          obtain ⟨mt, dsv, rfl, hmt, a3⟩ := tv_tup (tvm.mv kt3)
          have dsl : dsv.length = m.length := by rw [a3.len, List.length_map]
          refine ⟨.ref mt, rfl, mt, dsv, rfl, .inr (SqT.of hmt), fun So nS => ?_⟩
          have eS := Ex.new (o := HO.lst dsv) nS
          have W4 := W3.ex eS
          have nSr : So ≠ r := W3.ne nS
          have fineM : FMom dp p m := ⟨m6, fun x hx => ⟨by have := (mok x hx).1; omega, (mok x hx).2⟩⟩
          dsimp only [gName]
          refine seq_cut (fun σ G4 => ∃ (m' : MomT) (ds' : List V), σ = [some (.ref r), some (.ref hs), some (.ref lf), some (iV u), some (.ref F0), some (iV dp), some (.ref suA), some (.ref Mo), some (.ref mt), some (.ref So)] ∧ G4 So = some (.lst ds') ∧ TvAll G4 ds' (m'.map deedP) ∧ upM u m' = m ∧ FMom dp p m' ∧ Kx (fun b => b = r ∨ b = So) (upd G3 So (.lst dsv)) G4 ∧ Rw K r a ns G4) (fun n' hn => ?_) (fun σ G4 w => ?_)
          · have same := hn [some (.ref r), some (.ref hs), some (.ref lf), some (iV u), some (.ref F0), some (iV dp), some (.ref suA), some (.ref Mo), some (.ref mt), some (.ref So)] (upd G3 So (.lst dsv)) ⟨m, dsv, rfl, upd_same, a3.mv (Kt.ex eS), upM_id mlow, fineM, Kx.refl, W4⟩
            refine ⟨iV dp, rfl, iV u, rfl, _, _, rfl, rfl, _, rfl, ite2 (fun c1 => ?_) (fun c1 => iteF same)⟩
            have c1' : u < dp := by have := of_decide_eq_true c1; omega
            refine ⟨.ref So, rfl, So, dsv, rfl, .inl (SqL.of upd_same), _, _, rfl, rfl, _, rfl, ite2 (fun c2 => ?_) (fun c2 => same)⟩
            have c2' : m.length < 6 := by have : (dsv.length : Int) < 6 := of_decide_eq_true c2; omega
            have hh4 := hh3.ex eS
            refine ⟨.ref So, rfl, .inl ⟨rfl, _, SqL.of upd_same⟩, .ref r, rfl, .ref So, rfl, So, dsv, rfl, .inl (SqL.of upd_same), _, _, rfl, rfl, taken_of (m := dsv.length + 1) W4 rfl (by omega) (by omega) fun y Ga ly ka Wa => ?_⟩
            refine ⟨iV u, rfl, _, _, rfl, rfl, .ref r, rfl, iV dp, rfl, iV u, rfl, _, _, rfl, rfl, taken_of (m := dp - u) Wa (by show ((dp : Int) - (u : Int)) = _; omega) (by omega) (by omega) fun z Gb lz kb Wb => ?_⟩
            have hhb := (hh4.kq W4 ka).kq Wa kb
            refine ⟨_, _, rfl, rfl, .ref r, rfl, .ref hs, rfl, hs, _, _, iV p, rfl, rfl, SqT.of hhb.at_, atI_nat (j := 3) rfl, taken_of (m := p) Wb rfl p1 (by omega) fun pg Gc lp kc Wc => ?_⟩
            refine ⟨.ref r, rfl, taken_of (m := 10) Wc rfl (by decide) (by decide) fun ct Gd lc kd Wd => ?_⟩
            refine ⟨by show 3 ≤ sizeLine; decide, fun t nt => ?_⟩
            have et := Ex.new (o := HO.tup [iV (u + 1 + z), iV pg, iV ct]) nt
            have kS : Kq r (upd G3 So (.lst dsv)) (upd Gd t (.tup [iV (u + 1 + z), iV pg, iV ct])) := ((ka.trans kb).trans (kc.trans kd)).trans (Kq.ex et)
            have gS := kS _ _ nSr upd_same
            have We := Wd.ex et
            refine ⟨So, dsv, ((y : Nat) : Int), .ref t, rfl, rfl, gS, ?_, by omega, by omega, ?_⟩
            · exact Nat.lt_of_le_of_lt (show dsv.length ≤ 6 by omega) (by decide)
            rw [Int.toNat_natCast]
            refine hn _ _ ⟨m.take y ++ [(u + 1 + z, pg, ct)] ++ m.drop y, dsv.take y ++ [.ref t] ++ dsv.drop y, rfl, upd_same, ?_, upM_ins mlow (by show ¬ u + 1 + z ≤ u; omega), ⟨?_, fun x hx => ?_⟩, (kx_of kS).trans (Kx.put (.inr rfl)), ?_⟩
            · rw [List.map_append, List.map_append, List.map_take, List.map_drop]
              have a4 := (a3.mv (Kt.ex eS)).mv (kS.kt W4)
              exact (((tvTake y a4).app (.cons (.tup (by rw [show upd Gd t (HO.tup [iV (u + 1 + z), iV pg, iV ct]) t = _ from upd_same]) (.cons (.int _) (.cons (.int _) (.cons (.int _) .nil)))) .nil)).app (tvDrop y a4)).mv (Kt.put gS)
            · rw [List.length_append, List.length_append, List.length_take, List.length_drop]
              show min y m.length + 1 + (m.length - y) ≤ 6
              omega
            · rcases List.mem_append.mp hx with z1 | z1
              · rcases List.mem_append.mp z1 with z2 | z2
                · exact fineM.2 x (List.mem_of_mem_take z2)
                · rw [List.mem_singleton.mp z2]
                  exact ⟨by show u + 1 + z ≤ dp; omega, lp, lc⟩
              · exact fineM.2 x (List.mem_of_mem_drop z1)
            · exact We.put W3 nS gS
          · obtain ⟨m', ds', rfl, gS4, tv4, um, fm, k4, W5⟩ := w
            have kq34 := kq_new k4 nS
            have gM4 := kq34 _ _ nMr gM
            refine ⟨.ref Mo, rfl, .inl ⟨rfl, _, SqL.of gM4⟩, .ref So, rfl, So, ds', rfl, .inl ⟨SqL.of gS4, fun t5 nt5 => ?_⟩⟩
            have e5 := Ex.new (o := HO.tup ds') nt5
            have gM5 := e5 _ _ gM4
            have kq35 : Kq r G3 (upd G4 t5 (.tup ds')) := kq34.trans (Kq.ex e5)
            refine ⟨Mo, ws2, .ref t5, rfl, rfl, gM5, ?_, mm ++ [m'], ws2 ++ [.ref t5], some (.ref mt), some (.ref So), rfl, by rw [List.length_append, nl] <;> rfl, ?_, fun z hz => ?_, upd_same, ?_, (k3.trans (kx_of kq35)).trans (Kx.put (.inr rfl)), (W5.ex e5).put W2 nMo gM5⟩
            · rw [tv2.len, List.length_map, nl]
              exact Nat.lt_of_lt_of_le jl (Nat.le_trans sl40 (by decide))
            · rw [List.map_append, mu2, take_snoc hm]
              show _ ++ [upM u m'] = _
              rw [um]
            · rcases List.mem_append.mp hz with z | z
              · exact mo2 _ z
              · rw [List.mem_singleton.mp z]
                exact fm
            · rw [List.map_append]
              exact ((tv2.mv (kq35.kt W3)).app (.cons (.tup upd_same (tv4.mv (Kt.ex e5))) .nil)).mv (Kt.put gM5)
        · obtain ⟨mm, ws2, y8, y9, rfl, nl, mu2, mo2, gM, tv2, k3, W3⟩ := w
          rw [hul] at nl
          rw [hul, List.take_length] at mu2
          have kq23 := kq_new k3 nMo
          have kqG3 := k2.trans kq23
          have gF3 := kqG3 _ _ nFr gF
          refine ⟨.ref F0, rfl, .inl ⟨rfl, _, SqL.of gF3⟩, iV dp, rfl, .ref Mo, rfl, Mo, ws2, rfl, .inl ⟨SqL.of gM, fun t5 nt5 => ?_⟩⟩
          have e5 := Ex.new (o := HO.tup ws2) nt5
          refine ⟨by show 2 ≤ sizeLine; decide, fun t6 nt6 => ?_⟩
          have e6 := Ex.new (o := HO.tup [iV dp, V.ref t5]) nt6
          have e56 := e5.trans e6
          have gF6 := e56 _ _ gF3
          have kq6 : Kq r G _ := kqG3.trans (Kq.ex e56)
          refine ⟨F0, ws, .ref t6, rfl, rfl, gF6, ?_, ms ++ [(dp, mm)], ws ++ [.ref t6], some (iV dp), some (.ref suA), some (.ref Mo), y8, y9, rfl, by rw [List.length_append, ml] <;> rfl, ?_, fun z hz => ?_, upd_same, ?_, (kx.trans (kx_of kq6)).trans (Kx.put (.inr rfl)), (W3.ex e56).put W nF gF6⟩
          · rw [tvw.len, List.length_map, ml]
            exact Nat.lt_of_lt_of_le i6 (by decide)
          · rw [take_snoc hsx, ← mu]
            unfold upT
            rw [List.map_append]
            show _ ++ [(min dp u, mm.map (upM u))] = _
            rw [dm, mu2]
          · rcases List.mem_append.mp hz with z | z
            · exact mo _ z
            · rw [List.mem_singleton.mp z]
              exact ⟨dl, mo2⟩
          · rw [List.map_append]
            exact ((tvw.mv (kq6.kt WG)).app (.cons (.tup upd_same (.cons (.int _) (.cons (.tup (e6 _ _ upd_same) (tv2.mv (Kt.ex e56))) .nil))) .nil)).mv (Kt.put gF6)
    · obtain ⟨ms, ws, y5, y6, y7, y8, y9, rfl, ml, mu, mo, gF, tvw, kx, WG⟩ := w
      rw [hl] at ml
      rw [hl, List.take_length] at mu
      have uL : (upT u L).length = L.length := List.length_map _
      refine ⟨.ref F0, rfl, F0, ws, rfl, .inl ⟨SqL.of gF, fun t9 nt9 => ?_⟩⟩
      have e9 := Ex.new (o := HO.tup ws) nt9
      have lM : lenT ms = lenT L := by rw [← up_len u ms, mu, up_len]
      refine q t9 ms _ (.tup upd_same (tvw.mv (Kt.ex e9))) ⟨by have := ok.one; omega, by have := ok.six; omega, mo, by rw [lM]; exact ok.len⟩ mu ?_ (WG.ex e9)
      exact (show Kq r H G from fun b o nb h => kx b o (fun z => z.elim nb fun e => by rw [e, nF] at h; cases h) (e01 _ _ h)).trans (Kq.ex e9)
end
end K04

set_option maxHeartbeats 4000000
namespace K04
open PySem PySem.Spec PyProof.Rows L2 Hd Evl
/-! ### data compared -/
theorem depth_of {n : Nat} : ∀ {ds : List PyData}, (∀ x ∈ ds, PyData.depth x ≤ n) → PyData.depthAll ds ≤ n
  | [], _ => by simp [PyData.depthAll]
  | d :: ds, h => by
    have a := h d List.mem_cons_self
    have b := depth_of fun x hx => h x (List.mem_cons_of_mem _ hx)
    simp only [PyData.depthAll]
    omega
theorem depth_map {α : Type} {f : α → PyData} {n : Nat} (h : ∀ x, PyData.depth (f x) ≤ n) (L : List α) : PyData.depth (.tuple (L.map f)) ≤ n + 1 := by
  have := depth_of (ds := L.map f) (n := n) fun x hx => by
    obtain ⟨y, _, rfl⟩ := List.mem_map.mp hx
    exact h y
  simp only [PyData.depth]
  omega
theorem wideAll_of {n : Nat} : ∀ {ds : List PyData}, (∀ x ∈ ds, wideD x ≤ n) → wideAll ds ≤ n
  | [], _ => by simp [wideAll]
  | d :: ds, h => by
    have a := h d List.mem_cons_self
    have b := wideAll_of fun x hx => h x (List.mem_cons_of_mem _ hx)
    simp only [wideAll]
    omega
theorem wide_map {α : Type} {f : α → PyData} {n : Nat} {L : List α} (l : L.length ≤ n) (h : ∀ x ∈ L, wideD (f x) ≤ n) : wideD (.tuple (L.map f)) ≤ n := by
  have := wideAll_of (ds := L.map f) (n := n) fun x hx => by
    obtain ⟨y, hy, rfl⟩ := List.mem_map.mp hx
    exact h y hy
  simp only [wideD, List.length_map]
  omega
theorem alike_tv {K : PySem.W.Frag} {H : Hp} {x y : V} {e : PyData} {m : Nat} {Q : VK} {E : XK} (h1 : Tv H x e) (h2 : Tv H y e) (hd : PyData.depth e ≤ m) (hw : wideD e ≤ 100000) (q : ∀ H', Ex H H' → Q (.bl true) H') : spAlike K (m + 1) [x, y] H Q E :=
  (⟨⟨_, _, e, rfl, h1.dp' K, h2.dp' K, hd, hw, q⟩⟩ : AlikeP K m _ H Q E)
/-! ### lists of words -/
theorem dp_words {K : PySem.W.Frag} (H : Hp) : ∀ ws : List Str, DpAll K H (ws.map V.str) (ws.map PyData.str)
  | [] => .nil
  | x :: r => .cons (.str x) (dp_words H r)
theorem lay_words : ∀ ws : List Str, (∀ x ∈ ws, PyData.strOk x = true) → PyData.canLayAll0 (ws.map PyData.str) = true ∧ PyData.depthAll (ws.map PyData.str) ≤ 1
  | [], _ => by constructor <;> simp [PyData.canLayAll0, PyData.depthAll]
  | x :: r, h => by
    obtain ⟨a, b⟩ := lay_words r fun y hy => h y (List.mem_cons_of_mem _ hy)
    have hx := h x List.mem_cons_self
    constructor
    · simp [PyData.canLayAll0, PyData.canLay0, hx, a]
    · simp only [List.map_cons, PyData.depthAll, PyData.depth]
      omega
theorem words_eqv {ws : List Str} (h : ∀ x ∈ ws, PyData.strOk x = true) : SeqAt.shaped (.list (ws.map PyData.str)) = true ∧ PyData.eqv (.list (ws.map PyData.str)) (.list (ws.map PyData.str)) = true := by
  obtain ⟨a, b⟩ := lay_words ws h
  have hs : SeqAt.shaped (.list (ws.map PyData.str)) = true := by
    unfold SeqAt.shaped
    rw [Bool.and_eq_true]
    refine ⟨by simpa [PyData.canLay0] using a, decide_eq_true ?_⟩
    simp only [PyData.depth]
    omega
  exact ⟨hs, SeqAt.eqv_refl _ (SeqAt.canLay_of_shaped hs)⟩
theorem ne_words {K : PySem.W.Frag} {a b : Addr} {ws : List Str} {H : Hp} {Q : VK} (h : ∀ x ∈ ws, PyData.strOk x = true) (ha : H a = some (.lst (ws.map V.str))) (hb : H b = some (.lst (ws.map V.str))) (q : Q (.bl false) H) : rNeD K (.ref a) (.ref b) H Q := by
  obtain ⟨s1, s2⟩ := words_eqv h
  exact ⟨.list (ws.map PyData.str), .list (ws.map PyData.str), .lst (SqL.of ha) (dp_words H ws), .lst (SqL.of hb) (dp_words H ws), s1, s1, by rw [s2]; exact q⟩
/-! ### some statements, told by what holds before and behind them -/
def DoesP {α : Type} (X : Cx) (sts : List Stmt) (Pre Post : α → L2.St → Hp → Prop) : Prop := ∃ t, PSs X sts t ∧ ∀ x D σ H, Pre x σ H → (∀ σ' H', Post x σ' H' → D.nx σ' H') → t D σ H
def Does1 {α : Type} (X : Cx) (st : Stmt) (Pre Post : α → L2.St → Hp → Prop) : Prop := ∃ t, PS X st t ∧ ∀ x D σ H, Pre x σ H → (∀ σ' H', Post x σ' H' → D.nx σ' H') → t D σ H
theorem doesP_cons {α : Type} {X : Cx} {st : Stmt} {rest : List Stmt} {Pre Mid Post : α → L2.St → Hp → Prop} (h1 : Does1 X st Pre Mid) (h2 : DoesP X rest Mid Post) : DoesP X (st :: rest) Pre Post := by
  obtain ⟨t1, p1, q1⟩ := h1
  obtain ⟨t2, p2, q2⟩ := h2
  exact ⟨_, pss_cut p1 p2, fun x D σ H pre post => ⟨Mid x, q1 x _ σ H pre fun σ' H' m => m, fun σ' H' m => q2 x D σ' H' m post⟩⟩
theorem doesP_one {α : Type} {X : Cx} {st : Stmt} {Pre Post : α → L2.St → Hp → Prop} (h1 : Does1 X st Pre Post) : DoesP X [st] Pre Post := by
  obtain ⟨t1, p1, q1⟩ := h1
  exact ⟨_, pss_one p1, q1⟩
def forB : Stmt → List Stmt
  | .For _ _ b _ _ => b
  | _ => []
def ifT : Stmt → List Stmt
  | .If _ b _ _ => b
  | _ => []
def ifE : Stmt → List Stmt
  | .If _ _ e _ => e
  | _ => []
/-! ### the law's state -/
abbrev lawSt (i : Nat) : Stmt := (defBody s_law).getD i (.Pass ⟨0, 0, 0, 0⟩)
abbrev LX (P : Program) (w : World) (K : PySem.W.Frag) (mg : Str → Option Value) (base : Heap) (f c : Addr) (A : Around) (outer : List Env) (s : Shared) (H : Hp) (E : XK) : Cx := cxOf (L2.CX P w) P w K mg base n_law "law" (defScope s_law) f (.ref c) A outer s H E
abbrev LRoom (A : Around) (s : Shared) (f c : Addr) : Prop := Room 14 (A.deeper (envOfC "law" (defScope s_law) s.heap.objs.size f (.ref c)))
section
variable {σ : L2.St} {i j : Nat} {x : Option V} {v : V}
theorem gs (h : σ[j]? = some (some v)) (n : i ≠ j) : (σ.set i x)[j]? = some (some v) := by rw [List.getElem?_set_ne n]; exact h
theorem gn (l : σ.length = 21) (h : i < 21) : (σ.set i (some v))[i]? = some (some v) := by rw [List.getElem?_set_self (by omega)]
end
theorem wp {σ : L2.St} {i j : Nat} (h : j ≠ i) : (wipe σ [i])[j]? = σ[j]? := by
  show (σ.set i none)[j]? = _
  rw [List.getElem?_set_ne (fun e => h e.symm)]
theorem wp2 {σ : L2.St} {i : Nat} {x : Option V} : wipe ((wipe σ [i]).set i x) [i] = wipe σ [i] := by
  show ((σ.set i none).set i x).set i none = σ.set i none
  rw [List.set_set, List.set_set]
theorem wl {σ : L2.St} {i : Nat} (h : σ.length = 21) : (wipe σ [i]).length = 21 := by
  show (σ.set i none).length = 21
  rw [List.length_set]
  exact h
/-- a slot other than the comprehension's own -/
theorem wg {σ : L2.St} {i j : Nat} {v : V} {x : Option V} (h : σ[j]? = some (some v)) (n : i ≠ j) : ((wipe σ [i]).set i x)[j]? = some (some v) := gs (by rw [wp (Ne.symm n)]; exact h) n
structure Pr where
  r : Addr
  a : Addr
  ns : List Int
  hs : Addr
  lf : Addr
  cf : Addr
  n : Nat
  k : Nat
  d : Nat
  p : Nat
  c : Nat
  L : LifeT
  cn : List Nat
/-- the draws, the house, the life, the coins -/
structure Bs (K : PySem.W.Frag) (tb : Tb) (x : Pr) (σ : L2.St) (H : Hp) : Prop where
  len : σ.length = 21
  s1 : σ[1]? = some (some (.ref x.r))
  s2 : σ[2]? = some (some (.ref x.hs))
  s3 : σ[3]? = some (some (.ref x.lf))
  s4 : σ[4]? = some (some (iV (lenT x.L)))
  s5 : σ[5]? = some (some (.ref x.cf))
  W : Rw K x.r x.a x.ns H
  R : RunOf tb x.hs x.lf x.cf x.n x.k x.d x.p x.c x.L x.cn H
  l12 : lenT x.L ≤ 12
section
variable {K : PySem.W.Frag} {tb : Tb} {x : Pr} {σ : L2.St} {H H1 : Hp} {i : Nat} {v : Option V} {S : Addr → Prop} {r a : Addr} {ns : List Int}
theorem Rw.kl (W : Rw K r a ns H) (e : Kl S H H1) : Rw K r a ns H1 := by
  obtain ⟨i, sd, rs, h, b⟩ := W.row
  refine ⟨⟨i, sd, rs, e.l _ _ h, b⟩, ?_⟩
  rcases W.src with q | ⟨n, q | ⟨o, q⟩⟩
  · exact .inl q
  · exact .inr ⟨n, .inl (e.l _ _ q)⟩
  · exact .inr ⟨n, .inr ⟨o, e.e _ _ q (fun ps z => by cases z)⟩⟩
theorem tabG_kq {P : Addr} (W : Rw K r a ns H) (k : Kq r H H1) (T : GxR.TabG H P) : GxR.TabG H1 P := by
  obtain ⟨ps, h1, h2⟩ := T
  obtain ⟨xs, hr⟩ := W.lst
  exact ⟨ps, k _ _ (fun e => by rw [e, hr] at h1; cases h1) h1, h2⟩
/-- the tables of the program -/
structure Tbs (tb : Tb) (H : Hp) : Prop where
  m : GxR.TabG H tb.m
  s : GxR.TabG H tb.s
  n : GxR.TabG H tb.n
  o : GxR.TabG H tb.o
  p : GxR.TabG H tb.p
  u : GxR.TabG H tb.u
  a : GxR.TabG H tb.a
theorem Tbs.kq (T : Tbs tb H) (W : Rw K r a ns H) (k : Kq r H H1) : Tbs tb H1 := ⟨tabG_kq W k T.m, tabG_kq W k T.s, tabG_kq W k T.n, tabG_kq W k T.o, tabG_kq W k T.p, tabG_kq W k T.u, tabG_kq W k T.a⟩
theorem Tbs.ex (T : Tbs tb H) (e : Ex H H1) : Tbs tb H1 := ⟨tab_ex T.m e, tab_ex T.s e, tab_ex T.n e, tab_ex T.o e, tab_ex T.p e, tab_ex T.u e, tab_ex T.a e⟩
theorem RunOf.kq {hs lf cf : Addr} {n k d p c : Nat} {L : LifeT} {cn : List Nat} (R : RunOf tb hs lf cf n k d p c L cn H) (W : Rw K r a ns H) (e : Kq r H H1) : RunOf tb hs lf cf n k d p c L cn H1 :=
  { R with I := { R.I with hh := R.I.hh.kq W e, tv := R.I.tv.mv (e.kt W), hcf := e _ _ (fun z => W.notup _ (z ▸ R.I.hcf)) R.I.hcf, tb := tabG_kq W e R.I.tb }, m := tabG_kq W e R.m, s := tabG_kq W e R.s, n := tabG_kq W e R.n, p := tabG_kq W e R.p, u := tabG_kq W e R.u, a := tabG_kq W e R.a }
/-- another life of the same house, coins -/
theorem RunOf.other {hs lf lf' cf : Addr} {n k d p c : Nat} {L M : LifeT} {cn : List Nat} (R : RunOf tb hs lf cf n k d p c L cn H) (tv : Tv H (.ref lf') (lifeP M)) (ok : FineL d p M) (e : lenT M = lenT L) : RunOf tb hs lf' cf n k d p c M cn H :=
  { R with I := { R.I with tv := tv, ok := life_run ok, ne := fun z => (by have := ok.one; rw [z] at this; cases this), cl := by rw [e]; exact R.I.cl }, ok := ok }
theorem Bs.set (b : Bs K tb x σ H) (h : 6 ≤ i) : Bs K tb x (σ.set i v) H :=
  { b with len := by rw [List.length_set]; exact b.len, s1 := gs b.s1 (by omega), s2 := gs b.s2 (by omega), s3 := gs b.s3 (by omega), s4 := gs b.s4 (by omega), s5 := gs b.s5 (by omega) }
theorem Bs.kl (b : Bs K tb x σ H) (e : Kl S H H1) : Bs K tb x σ H1 := { b with W := b.W.kl e, R := b.R.kl e }
theorem Bs.ex (b : Bs K tb x σ H) (e : Ex H H1) : Bs K tb x σ H1 := b.kl (S := fun _ => False) (Kl.ex e)
theorem Bs.ks (b : Bs K tb x σ H) (e : Ks K H H1) : Bs K tb x σ H1 := b.kl e
theorem Bs.kq (b : Bs K tb x σ H) (e : Kq x.r H H1) (W : Rw K x.r x.a x.ns H1) : Bs K tb x σ H1 := { b with W := W, R := b.R.kq b.W e }
end
/-- what the law's run leans on -/
structure Lw (P : Program) (w : World) (K : PySem.W.Frag) (mg : Str → Option Value) (base : Heap) (cs : Cs) (tb : Tb) (C : Addr) : Type where
  B : Blt mg
  f_tk : Addr
  d_tk : FuncData
  tk : TakenF P w K mg base f_tk d_tk
  f_mo : Addr
  d_mo : FuncData
  mo : Fn P w K mg base CX0 2 "_law_moment" ["row", "house", "deepest", "most"] (spMom K) f_mo d_mo
  f_hs : Addr
  d_hs : FuncData
  hs : Fn P w K mg base CX0 2 "_law_house" ["row", "most"] (spHouse K) f_hs d_hs
  f_lf : Addr
  d_lf : FuncData
  lf : Fn P w K mg base CX0 3 "_law_life" ["row", "house", "moments"] (spLifeL K) f_lf d_lf
  f_co : Addr
  d_co : FuncData
  co : Fn P w K mg base CX0 2 "_law_coins" ["row", "house", "many"] (spCoinsL K) f_co d_co
  f_ln : Addr
  d_ln : FuncData
  ln : Fn P w K mg base CX0 1 "_law_length" ["life"] (spLength) f_ln d_ln
  f_ot : Addr
  d_ot : FuncData
  ot : Fn P w K mg base CX0 2 "_law_other" ["row", "house", "life", "drawer"] (spOth K) f_ot d_ot
  f_al : Addr
  d_al : FuncData
  al : ∀ n, Fn P w K mg base CX0 n "_law_alike" ["found", "due"] (spAlike K n) f_al d_al
  f_up : Addr
  d_up : FuncData
  up : Fn P w K mg base (L2.CX P w) 11 "upper" ["house", "life", "drawer"] (sp_upper K cs tb) f_up d_up
  f_aa : Addr
  d_aa : FuncData
  aa : Fn P w K mg base (L2.CX P w) 11 "alike_above" ["house", "one", "other", "drawer"] (sp_alike_above K cs tb) f_aa d_aa
  f_lk : Addr
  d_lk : FuncData
  lk : Fn P w K mg base (L2.CX P w) 11 "looks" ["house", "way", "life", "coins", "drawer"] (sp_looks K cs tb) f_lk d_lk
  f_vw : Addr
  d_vw : FuncData
  vw : Fn P w K mg base (L2.CX P w) 11 "view" ["house", "way", "life", "coins", "drawer", "times"] (sp_view K cs tb) f_vw d_vw
  f_pt : Addr
  d_pt : FuncData
  pt : Fn P w K mg base (L2.CX P w) 11 "is_parted" ["house", "way", "life", "coins", "drawer", "is_often"] (sp_parted K cs tb) f_pt d_pt
  f_wt : Addr
  d_wt : FuncData
  wt : Fn P w K mg base (L2.CX P w) 11 "waiting" ["house", "way", "life", "coins", "drawer"] (sp_waiting K cs tb) f_wt d_wt
  f_pl : Addr
  d_pl : FuncData
  pl : Fn P w K mg base (L2.CX P w) 11 "places" ["house", "way", "life", "coins", "drawer"] (sp_places K cs tb) f_pl d_pl
  f_rd : Addr
  d_rd : FuncData
  rd : Fn P w K mg base (L2.CX P w) 11 "read" ["house", "way", "life", "coins", "drawer", "page"] (sp_read K C cs tb) f_rd d_rd
  f_la : Addr
  d_la : FuncData
  la : Fn P w K mg base (L2.CX P w) 11 "found_later" ["house", "way", "life", "coins", "drawer", "page"] (sp_later K cs tb) f_la d_la
section
variable {P : Program} {w : World} {K : PySem.W.Frag} {mg : Str → Option Value} {base : Heap} {cs : Cs} {tb : Tb} {f c C a : Addr} {ns : List Int} {A : Around} {outer : List Env} {s : Shared} {H0 : Hp} {E0 : XK}
def At0 (K : PySem.W.Frag) (tb : Tb) (a : Addr) (ns : List Int) (σ : L2.St) (H : Hp) : Prop := σ = some (.ref a) :: List.replicate 20 none ∧ SqL K H a (ns.map V.int) ∧ Tbs tb H
def At1 (K : PySem.W.Frag) (tb : Tb) (a : Addr) (ns : List Int) (σ : L2.St) (H : Hp) : Prop := ∃ r, σ.length = 21 ∧ σ[1]? = some (some (.ref r)) ∧ Rw K r a ns H ∧ Tbs tb H
def At2 (K : PySem.W.Frag) (tb : Tb) (a : Addr) (ns : List Int) (F : Nat → Nat → Nat → Nat → L2.St → Hp → Prop) (σ : L2.St) (H : Hp) : Prop := ∃ r hs n k d p c, σ.length = 21 ∧ σ[1]? = some (some (.ref r)) ∧ σ[2]? = some (some (.ref hs)) ∧ Rw K r a ns H ∧ Tbs tb H ∧ HouseAt H hs n k d p c ∧ F n k d p σ H
def LifeAt (n k d p : Nat) (σ : L2.St) (H : Hp) : Prop := ∃ lf L, σ[3]? = some (some (.ref lf)) ∧ Tv H (.ref lf) (lifeP L) ∧ OkLife d p 12 L
def ManyAt (n k d p : Nat) (σ : L2.St) (H : Hp) : Prop := ∃ lf L, σ[3]? = some (some (.ref lf)) ∧ σ[4]? = some (some (iV (lenT L))) ∧ Tv H (.ref lf) (lifeP L) ∧ OkLife d p 12 L
def AtB (K : PySem.W.Frag) (tb : Tb) (σ : L2.St) (H : Hp) : Prop := ∃ x : Pr, Bs K tb x σ H
theorem st0 : Does (LX P w K mg base f c A outer s H0 E0) (lawSt 0) (At0 K tb a ns) (At1 K tb a ns) := by
  refine ⟨_, ps_set (i := 1) sc_law.nd rfl (Or.inr rfl) (pe_lst (pa_cons (pv 0) (pa_cons pe_int (pa_cons pe_int (pa_cons pe_int pa_nil))))), fun D σ H pre post => ?_⟩
  obtain ⟨rfl, ha, hT⟩ := pre
  refine ⟨.ref a, rfl, by show 4 ≤ sizeLine; decide, fun l nl => post _ _ ⟨l, rfl, rfl, ⟨⟨0, 18004, 0, upd_same, by decide, by decide, by decide⟩, ?_⟩, ?_⟩⟩
  · exact (Src.new ha nl).ex (Ex.new nl)
  · exact hT.ex (Ex.new nl)
theorem st1 (L : Lw P w K mg base cs tb C) (hr : LRoom A s f c) : Does (LX P w K mg base f c A outer s H0 E0) (lawSt 1) (At1 K tb a ns) (At2 K tb a ns fun _ _ _ _ _ _ => True) := by
  refine ⟨_, ps_set (i := 2) sc_law.nd rfl (by first | exact Or.inl rfl | exact Or.inr rfl) (pe_call L.hs.G (hr.mono (by decide)) (by rfl) L.hs.m L.hs.k L.hs.b .nil pass0 (pa_cons (pv 1) (pa_cons pe_int pa_nil))), fun D σ H pre post => ?_⟩
  obtain ⟨r, len, s1, W, T⟩ := pre
  refine ⟨.ref r, s1, r, a, ns, 7, rfl, W, by decide, by decide, fun n k d p c hs H' hh b1 b2 b3 b4 b5 kq W' => ?_⟩
  exact post _ _ ⟨r, hs, n, k, d, p, c, by rw [List.length_set]; exact len, gs s1 (by decide), gn len (by decide), W', T.kq W kq, hh, True.intro⟩
theorem st2 (L : Lw P w K mg base cs tb C) (hr : LRoom A s f c) : Does (LX P w K mg base f c A outer s H0 E0) (lawSt 2) (At2 K tb a ns fun _ _ _ _ _ _ => True) (At2 K tb a ns LifeAt) := by
  refine ⟨_, ps_set (i := 3) sc_law.nd rfl (by first | exact Or.inl rfl | exact Or.inr rfl) (pe_call L.lf.G (hr.mono (by decide)) (by rfl) L.lf.m L.lf.k L.lf.b .nil pass0 (pa_cons (pv 1) (pa_cons (pv 2) (pa_cons pe_int pa_nil)))), fun D σ H pre post => ?_⟩
  obtain ⟨r, hs, n, k, d, p, c, len, s1, s2, W, T, hh, _⟩ := pre
  refine ⟨.ref r, s1, .ref hs, s2, r, a, hs, ns, n, k, d, p, c, 12, rfl, W, hh, by decide, fun t Lf H' tv ok kq W' => post _ _ ⟨r, hs, n, k, d, p, c, by rw [List.length_set]; exact len, gs s1 (by decide), gs s2 (by decide), W', T.kq W kq, hh.kq W kq, t, Lf, gn len (by decide), tv, ok⟩⟩
theorem st3 (L : Lw P w K mg base cs tb C) (hr : LRoom A s f c) : Does (LX P w K mg base f c A outer s H0 E0) (lawSt 3) (At2 K tb a ns LifeAt) (At2 K tb a ns ManyAt) := by
  refine ⟨_, ps_set (i := 4) sc_law.nd rfl (by first | exact Or.inl rfl | exact Or.inr rfl) (pe_call L.ln.G (hr.mono (by decide)) (by rfl) L.ln.m L.ln.k L.ln.b .nil pass0 (pa_cons (pv 3) pa_nil)), fun D σ H pre post => ?_⟩
  obtain ⟨r, hs, n, k, d, p, c, len, s1, s2, W, T, hh, lf, Lf, s3, tv, ok⟩ := pre
  have ll : ∀ s ∈ Lf, s.2.length ≤ 1000 := fun s hs => Nat.le_trans (len_le hs) (Nat.le_trans ok.len (by decide))
  refine ⟨.ref lf, s3, lf, Lf, rfl, tv, ll, by have := ok.three; omega, fun H1 e1 => ?_⟩
  exact post _ _ ⟨r, hs, n, k, d, p, c, by rw [List.length_set]; exact len, gs s1 (by decide), gs s2 (by decide), W.ex e1, T.ex e1, hh.ex e1, lf, Lf, gs s3 (by decide), gn len (by decide), tv.mv (Kt.ex e1), ok⟩
theorem st4 (L : Lw P w K mg base cs tb C) (hr : LRoom A s f c) : Does (LX P w K mg base f c A outer s H0 E0) (lawSt 4) (At2 K tb a ns ManyAt) (AtB K tb) := by
  refine ⟨_, ps_set (i := 5) sc_law.nd rfl (by first | exact Or.inl rfl | exact Or.inr rfl) (pe_call L.co.G (hr.mono (by decide)) (by rfl) L.co.m L.co.k L.co.b .nil pass0 (pa_cons (pv 1) (pa_cons (pv 2) (pa_cons (pv 4) pa_nil)))), fun D σ H pre post => ?_⟩
  obtain ⟨r, hs, n, k, d, p, c, len, s1, s2, W, T, hh, lf, Lf, s3, s4, tv, ok⟩ := pre
  have ne : Lf ≠ [] := fun e => by have := ok.one; rw [e] at this; cases this
  refine ⟨.ref r, s1, .ref hs, s2, iV (lenT Lf), s4, r, a, hs, ns, n, k, d, p, c, lenT Lf, rfl, W, hh, by have := ok.len; omega, fun t cn H2 gt cl co kq W2 => ?_⟩
  have T2 := T.kq W kq
  exact post _ _ ⟨⟨r, a, ns, hs, lf, t, n, k, d, p, c, Lf, cn⟩, by rw [List.length_set]; exact len, gs s1 (by decide), gs s2 (by decide), gs s3 (by decide), gs s4 (by decide), gn len (by decide), W2, ⟨⟨hh.kq W kq, tv.mv (kq.kt W), life_run (fine_of ok), ne, gt, cl, co, T2.o⟩, fine_of ok, T2.m, T2.s, T2.n, T2.p, T2.u, T2.a⟩, ok.len⟩
end
end K04

set_option maxHeartbeats 4000000
namespace K04
open PySem PySem.Spec PyProof.Rows L2 Hd Evl
/-! ### what is seen, as data -/
theorem int_depth (x : Nat) : PyData.depth (intP x) ≤ 1 := by simp [intP, PyData.depth]
theorem cell_depth (x : Option Held) : PyData.depth (cellP x) ≤ 1 := by
  cases x with
  | none => simp [cellP, PyData.depth]
  | some h => exact Nat.le_of_eq rfl
theorem hist_depth (x : CellsT × List Nat) : PyData.depth (histP x) ≤ 3 := by
  have a := depth_map cell_depth x.1
  have b := depth_map int_depth x.2
  unfold histP
  simp only [PyData.depth, PyData.depthAll] at a b ⊢
  omega
theorem view_depth (v : HistT) : PyData.depth (.tuple (v.map histP)) ≤ 4 := depth_map hist_depth v
theorem int_wide (x : Nat) : wideD (intP x) ≤ 100000 := by simp [intP, wideD]
theorem cell_wide (x : Option Held) : wideD (cellP x) ≤ 100000 := by
  cases x with
  | none => simp [cellP, wideD]
  | some h =>
    show max 4 _ ≤ 100000
    simp [wideAll, wideD, intP]
theorem hist_wide {x : CellsT × List Nat} (h1 : x.1.length ≤ 100000) (h2 : x.2.length ≤ 100000) : wideD (histP x) ≤ 100000 := by
  have a := wide_map (f := cellP) h1 fun y _ => cell_wide y
  have b := wide_map (f := intP) h2 fun y _ => int_wide y
  unfold histP
  simp only [wideD, wideAll, List.length_map, List.length_cons, List.length_nil] at a b ⊢
  omega
theorem view_wide {n u : Nat} {hist : HistT} {ts : List Nat} (hk : HistOk n hist) (hn : n ≤ 12) (tl : ts.length ≤ 1000) : wideD (.tuple ((viewT n u hist ts).map histP)) ≤ 100000 := by
  refine wide_map ?_ fun x hx => ?_
  · unfold viewT
    rw [List.length_map, List.length_range]
    omega
  · unfold viewT at hx
    obtain ⟨i, _, rfl⟩ := List.mem_map.mp hx
    refine hist_wide ?_ ?_
    · show (openC u (hist.getD (timeT ts i) ([], [])).1).length ≤ 100000
      unfold openC
      rw [List.length_map, List.getD_eq_getElem?_getD]
      cases e : hist[timeT ts i]? with
      | none => exact Nat.zero_le _
      | some y =>
        have := (hk y (List.mem_of_getElem? e)).1
        show y.1.length ≤ 100000
        omega
    · have := srt_len (n := n) (sinceT hist (timeT ts (i - 1)) (timeT ts i))
      show (srtT n _).length ≤ 100000
      omega
theorem shaped_tints : ∀ l : List Nat, SeqAt.shaped (.tuple (l.map intP)) = true := fun l => by
  have h : PyData.canLayAll0 (l.map intP) = true ∧ PyData.depthAll (l.map intP) ≤ 1 := by
    induction l with
    | nil => exact ⟨rfl, Nat.zero_le _⟩
    | cons x l ih =>
      refine ⟨?_, ?_⟩
      · show ((intP x).canLay0 && PyData.canLayAll0 (l.map intP)) = true
        rw [ih.1]
        rfl
      · have := ih.2
        have := int_depth x
        simp only [List.map_cons, PyData.depthAll]
        omega
  unfold SeqAt.shaped
  rw [Bool.and_eq_true]
  refine ⟨by simpa [PyData.canLay0] using h.1, decide_eq_true ?_⟩
  have := h.2
  simp only [PyData.depth]
  omega
theorem Fn_k {P : Program} {w : World} {K : PySem.W.Frag} {mg : Str → Option Value} {base : Heap} {CX : CXT} {k : Nat} {x : Str} {ps : List Str} {sp : Sp} {f : Addr} {fd : FuncData} (F : Fn P w K mg base CX k x ps sp f fd) : FnR P w K mg base CX k f sp ∧ PySem.W.keepIn K (.ref f) = true := ⟨F.r, F.k⟩
/-! ### the loop over the drawers -/
abbrev l5 (i : Nat) : Stmt := (forB (lawSt 5)).getD i (.Pass ⟨0, 0, 0, 0⟩)
abbrev Pr.run (x : Pr) (M : LifeT) : StT × HistT := runT x.n .tru x.p x.c (setOf x.n x.k x.cn) M
/-- what all looks show -/
abbrev Pr.all (x : Pr) (u : Nat) : PyData := .tuple ((viewT x.n u (x.run x.L).2 (List.range (lenT x.L + 1))).map histP)
structure D1 (K : PySem.W.Frag) (tb : Tb) (x : Pr × Nat) (σ : L2.St) (H : Hp) : Prop where
  b : Bs K tb x.1 σ H
  s6 : σ[6]? = some (some (iV x.2))
  lt : x.2 < x.1.d
/-- the plain life, another one -/
structure D2 (K : PySem.W.Frag) (tb : Tb) (x : Pr × Nat) (σ : L2.St) (H : Hp) : Prop extends D1 K tb x σ H where
  ot : ∃ (lp lo : Addr) (M : LifeT), σ[7]? = some (some (.ref lp)) ∧ σ[8]? = some (some (.ref lo)) ∧ Tv H (.ref lp) (lifeP (upT x.2 x.1.L)) ∧ Tv H (.ref lo) (lifeP M) ∧ FineL x.1.d x.1.p M ∧ upT x.2 M = upT x.2 x.1.L
structure D3 (K : PySem.W.Frag) (tb : Tb) (x : Pr × Nat) (σ : L2.St) (H : Hp) : Prop extends D2 K tb x σ H where
  sv : ∃ v, σ[9]? = some (some v) ∧ Tv H v (x.1.all x.2)
structure D4 (K : PySem.W.Frag) (tb : Tb) (x : Pr × Nat) (σ : L2.St) (H : Hp) : Prop extends D2 K tb x σ H where
  tm : ∃ (tt : Addr) (ts : List Nat), σ[11]? = some (some (.ref tt)) ∧ H tt = some (.tup ((ts ++ [lenT x.1.L + 1]).map iV)) ∧ ts.Pairwise (· < ·) ∧ (∀ t ∈ ts, t ≤ lenT x.1.L) ∧ ts.length ≤ 100
structure D5 (K : PySem.W.Frag) (tb : Tb) (x : Pr × Nat) (σ : L2.St) (H : Hp) : Prop extends D2 K tb x σ H where
  tm : ∃ (tt : Addr) (ts : List Nat), σ[11]? = some (some (.ref tt)) ∧ H tt = some (.tup (ts.map iV)) ∧ ts.Pairwise (· < ·) ∧ (∀ t ∈ ts, t ≤ lenT x.1.L) ∧ ts.length ≤ 1000 ∧ ts ≠ []
section
variable {K : PySem.W.Frag} {tb : Tb} {x : Pr × Nat} {σ : L2.St} {H H1 : Hp} {i : Nat} {v : Option V}
theorem D1.set (b : D1 K tb x σ H) (h : 7 ≤ i) : D1 K tb x (σ.set i v) H := ⟨b.b.set (by omega), gs b.s6 (by omega), b.lt⟩
theorem D1.ks (b : D1 K tb x σ H) (e : Ks K H H1) : D1 K tb x σ H1 := ⟨b.b.ks e, b.s6, b.lt⟩
theorem D1.ex (b : D1 K tb x σ H) (e : Ex H H1) : D1 K tb x σ H1 := ⟨b.b.ex e, b.s6, b.lt⟩
theorem D1.kq (b : D1 K tb x σ H) (e : Kq x.1.r H H1) (W : Rw K x.1.r x.1.a x.1.ns H1) : D1 K tb x σ H1 := ⟨b.b.kq e W, b.s6, b.lt⟩
theorem D2.set (b : D2 K tb x σ H) (h : 9 ≤ i) : D2 K tb x (σ.set i v) H := ⟨b.toD1.set (by omega), let ⟨lp, lo, M, a1, a2, r⟩ := b.ot; ⟨lp, lo, M, gs a1 (by omega), gs a2 (by omega), r⟩⟩
theorem D2.to (b : D2 K tb x σ H) (d : D1 K tb x σ H1) (k : Kt H H1) : D2 K tb x σ H1 := ⟨d, let ⟨lp, lo, M, a1, a2, t1, t2, r⟩ := b.ot; ⟨lp, lo, M, a1, a2, t1.mv k, t2.mv k, r⟩⟩
theorem D2.ks (b : D2 K tb x σ H) (e : Ks K H H1) : D2 K tb x σ H1 := b.to (b.toD1.ks e) (ks_kt e)
theorem D2.ex (b : D2 K tb x σ H) (e : Ex H H1) : D2 K tb x σ H1 := b.to (b.toD1.ex e) (Kt.ex e)
theorem D2.kq (b : D2 K tb x σ H) (e : Kq x.1.r H H1) (W : Rw K x.1.r x.1.a x.1.ns H1) : D2 K tb x σ H1 := b.to (b.toD1.kq e W) (e.kt b.b.W)
theorem D3.ks (b : D3 K tb x σ H) (e : Ks K H H1) : D3 K tb x σ H1 := ⟨b.toD2.ks e, let ⟨v, a, t⟩ := b.sv; ⟨v, a, t.mv (ks_kt e)⟩⟩
theorem D3.set (b : D3 K tb x σ H) (h : 10 ≤ i) : D3 K tb x (σ.set i v) H := ⟨b.toD2.set (by omega), let ⟨v, a, t⟩ := b.sv; ⟨v, gs a (by omega), t⟩⟩
theorem len_of {u : Nat} {L M : LifeT} (e : upT u M = upT u L) : lenT M = lenT L := by rw [← up_len u M, e, up_len]
theorem D1.plain (b : D1 K tb x σ H) {lp : Addr} (tv : Tv H (.ref lp) (lifeP (upT x.2 x.1.L))) : RunOf tb x.1.hs lp x.1.cf x.1.n x.1.k x.1.d x.1.p x.1.c (upT x.2 x.1.L) x.1.cn H := b.b.R.other tv (fine_up b.b.R.ok) (up_len _ _)
theorem up_up (u : Nat) (L : LifeT) : upT u (upT u L) = upT u L := by
  unfold upT
  rw [List.map_map]
  refine List.map_congr_left fun s _ => ?_
  show (min (min s.1 u) u, (s.2.map (upM u)).map (upM u)) = (min s.1 u, s.2.map (upM u))
  rw [List.map_map, Nat.min_eq_left (Nat.min_le_right _ _)]
  congr 1
  refine List.map_congr_left fun m _ => ?_
  exact upM_id fun y hy => of_decide_eq_true (List.mem_filter.mp hy).2
/-- lives alike above look alike -/
theorem same_view (x : Pr) {u : Nat} {M : LifeT} (e : upT u M = upT u x.L) (ts : List Nat) : viewT x.n u (x.run M).2 ts = viewT x.n u (x.run x.L).2 ts := view_look (run_alike (u := u) (L := M) (M := x.L) e).h ts
end
section
variable {P : Program} {w : World} {K : PySem.W.Frag} {mg : Str → Option Value} {base : Heap} {cs : Cs} {tb : Tb} {f c C a : Addr} {ns : List Int} {A : Around} {outer : List Env} {s : Shared} {H0 : Hp} {E0 : XK}
theorem s50 (L : Lw P w K mg base cs tb C) (hr : LRoom A s f c) : Does1 (LX P w K mg base f c A outer s H0 E0) (l5 0) (D1 K tb) (D2 K tb) := by
  refine ⟨_, ps_par (i := 7) (j := 8) (by rfl) sc_law.nd rfl rfl (by decide) rfl rfl (pa_cons (pe_call L.up.G (hr.mono (by decide)) (by rfl) L.up.m L.up.k L.up.b .nil (passX (E := E0) rfl rfl rfl rfl) (pa_cons (pv 2) (pa_cons (pv 3) (pa_cons (pv 6) pa_nil)))) (pa_cons (pe_call L.ot.G (hr.mono (by decide)) (by rfl) L.ot.m L.ot.k L.ot.b .nil pass0 (pa_cons (pv 1) (pa_cons (pv 2) (pa_cons (pv 3) (pa_cons (pv 6) pa_nil))))) pa_nil)) (by rfl), fun x D σ H pre post => ?_⟩
  have b := pre.b
  refine ⟨.ref x.1.hs, b.s2, .ref x.1.lf, b.s3, iV x.2, pre.s6, go_upper b.R pre.lt fun t H1 tv1 k1 => ?_⟩
  have d1 := pre.ks k1
  refine ⟨.ref x.1.r, b.s1, .ref x.1.hs, b.s2, .ref x.1.lf, b.s3, iV x.2, pre.s6, x.1.r, x.1.a, x.1.hs, x.1.lf, x.1.ns, x.1.n, x.1.k, x.1.d, x.1.p, x.1.c, x.2, x.1.L, rfl, d1.b.W, d1.b.R.I.hh, d1.b.R.I.tv, d1.b.R.ok, pre.lt, fun t2 M H2 tv2 fm um kq W2 => ?_⟩
  have d2 := d1.kq kq W2
  exact ⟨_, _, rfl, post _ _ ⟨(d2.set (by decide)).set (by decide), t, t2, M, gs (gn b.len (by decide)) (by decide), gn (by rw [List.length_set]; exact b.len) (by decide), tv1.mv (kq.kt d1.b.W), tv2, fm, um⟩⟩
theorem s51 (L : Lw P w K mg base cs tb C) (hr : LRoom A s f c) : Does1 (LX P w K mg base f c A outer s H0 E0) (l5 1) (D2 K tb) (D2 K tb) := by
  refine ⟨_, ps_if (PW.pt (pw_or (pt_cmpR op_notBl (pe_call L.aa.G (hr.mono (by decide)) (by rfl) L.aa.m L.aa.k L.aa.b .nil (passX (E := E0) rfl rfl rfl rfl) (pa_cons (pv 2) (pa_cons (pv 3) (pa_cons (pv 7) (pa_cons (pv 6) pa_nil))))) pe_bl (nomark _)) (pw_or1 (pt_cmpR op_notBl (pe_call L.aa.G (hr.mono (by decide)) (by rfl) L.aa.m L.aa.k L.aa.b .nil (passX (E := E0) rfl rfl rfl rfl) (pa_cons (pv 2) (pa_cons (pv 3) (pa_cons (pv 8) (pa_cons (pv 6) pa_nil))))) pe_bl (nomark _))))) (pss_one (ps_ret pe_bl)) pss_nil, fun x D σ H pre post => ?_⟩
  have b := pre.b
  obtain ⟨lp, lo, M, s7, s8, tp, tvo, fm, um⟩ := pre.ot
  refine ⟨.ref x.1.hs, b.s2, .ref x.1.lf, b.s3, .ref lp, s7, iV x.2, pre.s6, go_alike b.R (pre.plain tp) pre.lt (up_up _ _).symm fun H1 k1 => ?_⟩
  refine ⟨true, true, rfl, rfl, _, rfl, iteF ?_⟩
  have p1 := pre.ks k1
  have tvo1 := tvo.mv (ks_kt k1)
  refine ⟨.ref x.1.hs, b.s2, .ref x.1.lf, b.s3, .ref lo, s8, iV x.2, pre.s6, go_alike p1.b.R (p1.b.R.other tvo1 fm (len_of um)) pre.lt um.symm fun H2 k2 => ?_⟩
  exact ⟨true, true, rfl, rfl, _, rfl, iteF (post _ _ (p1.ks k2))⟩
theorem s52 (L : Lw P w K mg base cs tb C) (hr : LRoom A s f c) : Does1 (LX P w K mg base f c A outer s H0 E0) (l5 2) (D2 K tb) (D3 K tb) := by
  refine ⟨_, ps_set (i := 9) sc_law.nd rfl (Or.inl rfl) (pe_call L.lk.G (hr.mono (by decide)) (by rfl) L.lk.m L.lk.k L.lk.b .nil (passX (E := E0) rfl rfl rfl rfl) (pa_cons (pv 2) (pa_cons pe_str (pa_cons (pv 3) (pa_cons (pv 5) (pa_cons (pv 6) pa_nil)))))), fun x D σ H pre post => ?_⟩
  have b := pre.b
  exact ⟨.ref x.1.hs, b.s2, .ref x.1.lf, b.s3, .ref x.1.cf, b.s5, iV x.2, pre.s6, go_looks (w := .tru) b.R pre.lt fun v H1 tv1 k1 => post _ _ ⟨(pre.ks k1).set (by decide), v, gn b.len (by decide), tv1⟩⟩
theorem s53 (L : Lw P w K mg base cs tb C) (hr : LRoom A s f c) : Does1 (LX P w K mg base f c A outer s H0 E0) (l5 3) (D3 K tb) (D2 K tb) := by
  refine ⟨_, ps_for (passes_of rfl) rfl (pi_list (pe_lst (pa_cons (pv 7) (pa_cons (pv 8) pa_nil)))) (pg_name (i := 10) sc_law.nd rfl (Or.inl rfl)) (pss_one (ps_if (pt_not (pt_val (pe_call (L.al 5).G (hr.mono (by decide)) (by rfl) (L.al 5).m (L.al 5).k (L.al 5).b .nil pass0 (pa_cons (pe_call L.lk.G (hr.mono (by decide)) (by rfl) L.lk.m L.lk.k L.lk.b .nil (passX (E := E0) rfl rfl rfl rfl) (pa_cons (pv 2) (pa_cons pe_str (pa_cons (pv 10) (pa_cons (pv 5) (pa_cons (pv 6) pa_nil)))))) (pa_cons (pv 9) pa_nil))))) (pss_one (ps_ret pe_bl)) pss_nil)), fun x D σ H pre post => ?_⟩
  obtain ⟨lp, lo, M, s7, s8, _⟩ := pre.ot
  refine ⟨.ref lp, s7, .ref lo, s8, by show 2 ≤ sizeLine; decide, fun l nl => ⟨l, rfl, ⟨_, SqL.of upd_same⟩, ?_⟩⟩
  have el := Ex.new (o := HO.lst [V.ref lp, V.ref lo]) nl
  refine for_list (xs := [V.ref lp, V.ref lo]) (fun i σ' G => D3 K tb x σ' G ∧ σ'[7]? = some (some (.ref lp)) ∧ σ'[8]? = some (some (.ref lo)) ∧ G l = some (.lst [V.ref lp, V.ref lo])) ⟨pre.ks (Ks.ex el), s7, s8, upd_same⟩ (fun i σ' G _ z => SqL.of z.2.2.2) (fun i v σ' G hx z => ?_) (fun σ' G z => post _ _ z.1.toD2)
  obtain ⟨d, t7, t8, gl⟩ := z
  have b := d.b
  obtain ⟨sv, s9, tvs⟩ := d.sv
  obtain ⟨lp2, lo2, M2, q7, q8, tp, tvo, fm, um⟩ := d.ot
  rw [t7] at q7
  rw [t8] at q8
  cases q7
  cases q8
  have okv : ∃ (lv : Addr) (N : LifeT), v = .ref lv ∧ RunOf tb x.1.hs lv x.1.cf x.1.n x.1.k x.1.d x.1.p x.1.c N x.1.cn G ∧ upT x.2 N = upT x.2 x.1.L := by
    have := List.mem_of_getElem? hx
    simp only [List.mem_cons, List.mem_nil_iff, or_false] at this
    rcases this with rfl | rfl
    · exact ⟨lp, _, rfl, d.plain tp, up_up _ _⟩
    · exact ⟨lo, _, rfl, b.R.other tvo fm (len_of um), um⟩
  obtain ⟨lv, N, rfl, RN, en⟩ := okv
  have ho := (RN.I.hist .tru).1
  refine ⟨.ref x.1.hs, gs b.s2 (by decide), .ref lv, gn b.len (by decide), .ref x.1.cf, gs b.s5 (by decide), iV x.2, gs d.s6 (by decide), go_looks (w := .tru) RN d.lt fun v1 H1 tv1 k1 => ?_⟩
  have e : viewT x.1.n x.2 (runT x.1.n .tru x.1.p x.1.c (setOf x.1.n x.1.k x.1.cn) N).2 (List.range (lenT N + 1)) = viewT x.1.n x.2 (x.1.run x.1.L).2 (List.range (lenT x.1.L + 1)) := by
    rw [len_of en]
    exact same_view x.1 en _
  rw [e] at tv1
  have hoL := (b.R.I.hist .tru).1
  refine ⟨sv, gs s9 (by decide), alike_tv tv1 (tvs.mv (ks_kt k1)) (view_depth _) (view_wide hoL b.R.I.hh.n12 (by rw [List.length_range]; have := b.l12; omega)) fun H3 e3 => ⟨_, rfl, iteF ?_⟩⟩
  have k3 := k1.trans (Ks.ex e3)
  exact ⟨(d.ks k3).set (by decide), gs t7 (by decide), gs t8 (by decide), k3.l _ _ gl⟩
end
end K04

set_option maxHeartbeats 4000000
namespace K04
open PySem PySem.Spec PyProof.Rows L2 Hd Evl
theorem six_last (m n : Nat) (h : n = m + 1) (d : Nat) : HT.sIx n d (some (-1)) = m := by
  show (if (-1 : Int) < 0 then ((-1 : Int) + (n : Int)).toNat else min ((-1 : Int).toNat) n) = m
  rw [if_pos (by decide)]
  omega
theorem cut_last (ts : List Nat) (m : Nat) : cutV ((ts ++ [m]).map iV) none (some (-1)) = ts.map iV := by
  unfold cutV
  have e : ((ts ++ [m]).map iV).length = ts.length + 1 := by rw [List.length_map, List.length_append] <;> rfl
  rw [HT.sIx_none, six_last ts.length _ e, List.drop_zero, Nat.sub_zero, ← List.map_take, List.take_append_of_le_length (Nat.le_refl _), List.take_length]
section
variable {P : Program} {w : World} {K : PySem.W.Frag} {mg : Str → Option Value} {base : Heap} {cs : Cs} {tb : Tb} {f c C a : Addr} {ns : List Int} {A : Around} {outer : List Env} {s : Shared} {H0 : Hp} {E0 : XK}
theorem s54 (L : Lw P w K mg base cs tb C) (hr : LRoom A s f c) : Does1 (LX P w K mg base f c A outer s H0 E0) (l5 4) (D2 K tb) (D4 K tb) := by
  refine ⟨_, ps_set (i := 11) sc_law.nd rfl (Or.inl rfl) (pe_op op_catA (pe_callTy call_tuple_of (by rfl) L.B.tuple (by decide +kernel) (pa_cons (pe_lc (own := [("k", 20)]) (g := gName 20) (by rfl) sc_law.nd (pi_range1 (by rfl) L.B.range (pa_cons (pe_op op_add (pv 4) pe_int) pa_nil)) (blkOk_by (own := [("k", 20)]) (N := n_law) (sc := defScope s_law) (by decide +kernel)) (fun _ _ _ _ _ => pg_name (i := 20) sc_law.nd rfl (Or.inl rfl))
    (fun _ _ _ _ _ => pts_one (pt_cmpR op_eq (pe_call L.tk.G (hr.mono (by decide)) (by rfl) L.tk.m L.tk.k L.tk.b .nil pass0 (pa_cons (pv 1) (pa_cons pe_int pa_nil))) pe_int (nomark _))) (fun _ _ _ _ _ => pv 20)) pa_nil)) (pe_tup (pa_cons (pe_op op_add (pv 4) pe_int) pa_nil))), fun x D σ H pre post => ?_⟩
  have b := pre.b
  have l12 := b.l12
  refine ⟨iV (lenT x.1.L), b.s4, _, _, rfl, rfl, ((lenT x.1.L + 1 : Nat) : Int), rfl, by omega, by omega, fun D nD => ?_⟩
  refine lc_range (lo := 0) (n := lenT x.1.L + 1) (fun i G => ∃ ts : List Nat, G D = some (.lst (ts.map iV)) ∧ ts.Pairwise (· < ·) ∧ (∀ t ∈ ts, t < i) ∧ ts.length ≤ i ∧ Kq x.1.r H G ∧ Rw K x.1.r x.1.a x.1.ns G) ⟨[], upd_same, .nil, (fun t h => by cases h), Nat.le_refl 0, Kq.ex (Ex.new nD), b.W.ex (Ex.new nD)⟩ (fun i G hi w => ?_) (fun G w => ?_)
  · obtain ⟨ts, gD, asc, lt, tl, kG, WG⟩ := w
    rw [Int.zero_add]
    refine ⟨wp2, .ref x.1.r, wg b.s1 (by decide), ?_⟩
    refine taken_of (m := 2) WG rfl (by decide) (by decide) fun x1 G1 l1 k1 W1 => ?_
    have nDr := b.W.ne nD
    have gD1 := k1 _ _ nDr gD
    refine ⟨rfl, _, rfl, ite2 (fun c1 => ?_) (fun c1 => ?_)⟩
    · refine ⟨iV i, gn (wl b.len) (by decide), _, gD1, ?_, ts ++ [i], by rw [upd_same, List.map_append] <;> rfl, ?_, fun t ht => ?_, by rw [List.length_append]; exact Nat.succ_le_succ tl, (kG.trans k1).put nD, W1.put b.W nD gD1⟩
      · rw [List.length_map]
        exact Nat.lt_of_le_of_lt (show ts.length ≤ 100 by omega) (by decide)
      · refine List.pairwise_append.mpr ⟨asc, List.pairwise_singleton _ _, fun y hy z hz => ?_⟩
        rw [List.mem_singleton.mp hz]
        exact lt y hy
      · rcases List.mem_append.mp ht with z | z
        · have := lt t z
          omega
        · rw [List.mem_singleton.mp z]
          omega
    · exact ⟨ts, gD1, asc, fun t ht => by have := lt t ht; omega, by omega, kG.trans k1, W1⟩
  · obtain ⟨ts, gD, asc, lt, tl, kG, WG⟩ := w
    refine ⟨D, _, rfl, .inl ⟨SqL.of gD, fun t nt => ?_⟩⟩
    have et := Ex.new (o := HO.tup (ts.map iV)) nt
    refine ⟨iV (lenT x.1.L), b.s4, _, _, rfl, rfl, by show 1 ≤ sizeLine; decide, fun t2 nt2 => ?_⟩
    have et2 := Ex.new (o := HO.tup [iV (lenT x.1.L + 1)]) nt2
    have d2 := ((pre.kq kG WG).ex et).ex et2
    have le : ∀ t ∈ ts, t ≤ lenT x.1.L := fun t ht => by have := lt t ht; omega
    refine ⟨t, t2, _, [iV (lenT x.1.L + 1)], rfl, rfl, SqT.of (et2 _ _ upd_same), SqT.of upd_same, ?_, fun e0 => ?_, fun _ z => (by cases z), fun _ _ p np => ?_⟩
    · rw [List.length_map]
      exact Nat.le_trans (show ts.length + 1 ≤ 100 by omega) (by decide)
    · obtain rfl : ts = [] := List.map_eq_nil_iff.mp e0
      exact post _ _ ⟨d2.set (by decide), t2, [], gn b.len (by decide), upd_same, .nil, (fun _ h => by cases h), Nat.zero_le _⟩
    · have ep := Ex.new (o := HO.tup (ts.map iV ++ [iV (lenT x.1.L + 1)])) np
      exact post _ _ ⟨(d2.ex ep).set (by decide), p, ts, gn b.len (by decide), by rw [upd_same, List.map_append] <;> rfl, asc, le, by omega⟩
theorem s55 (L : Lw P w K mg base cs tb C) (hr : LRoom A s f c) : Does1 (LX P w K mg base f c A outer s H0 E0) (l5 5) (D4 K tb) (D5 K tb) := by
  refine ⟨_, ps_set (i := 11) sc_law.nd rfl (Or.inl rfl) (pe_ifExp (pt_cmpR op_gt (pe_callB call_len_seq (by rfl) L.B.len (by decide +kernel) (pa_cons (pv 11) pa_nil)) pe_int (nomark _)) (pe_slice sl_tupA (pv 11) po_none (po_some (pe_un un_neg pe_int))) (pe_tup (pa_cons (pv 4) pa_nil))), fun x D σ H pre post => ?_⟩
  obtain ⟨tt, ts, s11, ht, asc, le, tl⟩ := pre.tm
  have b := pre.b
  have xl : ((ts ++ [lenT x.1.L + 1]).map iV).length = ts.length + 1 := by rw [List.length_map, List.length_append] <;> rfl
  refine ⟨.ref tt, s11, tt, _, rfl, .inr (SqT.of ht), _, _, rfl, rfl, _, rfl, ite2 (fun c1 => ?_) (fun c1 => ?_)⟩
  · have c1' : 1 < ts.length + 1 := by have := of_decide_eq_true c1; rw [xl] at this; omega
    refine ⟨.ref tt, s11, ?_⟩
    dsimp only [tNoPart]
    refine ⟨1, rfl, -1, rfl, tt, _, rfl, SqT.of ht, fun z => ?_, fun _ p np => ?_⟩
    · exfalso
      have z2 := z.2
      rw [six_last ts.length _ xl, xl] at z2
      omega
    · exact post _ _ ⟨(pre.toD2.ex (Ex.new np)).set (by decide), p, ts, gn b.len (by decide), by rw [upd_same, cut_last], asc, le, by omega, fun z => by rw [z] at c1'; exact absurd c1' (by decide)⟩
  · refine ⟨iV (lenT x.1.L), b.s4, by show 1 ≤ sizeLine; decide, fun p np => ?_⟩
    refine post _ _ ⟨(pre.toD2.ex (Ex.new np)).set (by decide), p, [lenT x.1.L], gn b.len (by decide), upd_same, List.pairwise_singleton _ _, fun y hy => ?_, by show 1 ≤ 1000; decide, by simp⟩
    rw [List.mem_singleton.mp hy]
    exact Nat.le_refl _
theorem s56 (L : Lw P w K mg base cs tb C) (hr : LRoom A s f c) : Does1 (LX P w K mg base f c A outer s H0 E0) (l5 6) (D5 K tb) (D2 K tb) := by
  refine ⟨_, ps_if (pt_not (pt_val (pe_call (L.al 5).G (hr.mono (by decide)) (by rfl) (L.al 5).m (L.al 5).k (L.al 5).b .nil pass0 (pa_cons (pe_call L.vw.G (hr.mono (by decide)) (by rfl) L.vw.m L.vw.k L.vw.b .nil (passX (E := E0) rfl rfl rfl rfl) (pa_cons (pv 2) (pa_cons pe_str (pa_cons (pv 3) (pa_cons (pv 5) (pa_cons (pv 6) (pa_cons (pv 11) pa_nil)))))))
    (pa_cons (pe_call L.vw.G (hr.mono (by decide)) (by rfl) L.vw.m L.vw.k L.vw.b .nil (passX (E := E0) rfl rfl rfl rfl) (pa_cons (pv 2) (pa_cons pe_str (pa_cons (pv 8) (pa_cons (pv 5) (pa_cons (pv 6) (pa_cons (pv 11) pa_nil))))))) pa_nil))))) (pss_one (ps_ret pe_bl)) pss_nil, fun x D σ H pre post => ?_⟩
  obtain ⟨tt, ts, s11, ht, asc, le, tl, ne⟩ := pre.tm
  obtain ⟨lp, lo, M, s7, s8, tp, tvo, fm, um⟩ := pre.ot
  have b := pre.b
  refine ⟨.ref x.1.hs, b.s2, .ref x.1.lf, b.s3, .ref x.1.cf, b.s5, iV x.2, pre.s6, .ref tt, s11, go_view (w := .tru) b.R pre.lt ht ne tl asc le fun v H1 tv1 k1 => ?_⟩
  have p1 := pre.toD2.ks k1
  have RN := p1.b.R.other (tvo.mv (ks_kt k1)) fm (len_of um)
  refine ⟨.ref x.1.hs, b.s2, .ref lo, s8, .ref x.1.cf, b.s5, iV x.2, pre.s6, .ref tt, s11, go_view (w := .tru) RN pre.lt (k1.t _ _ ht) ne tl asc (fun t h => by rw [len_of um]; exact le t h) fun v2 H2 tv2 k2 => ?_⟩
  have e : viewT x.1.n x.2 (runT x.1.n .tru x.1.p x.1.c (setOf x.1.n x.1.k x.1.cn) M).2 ts = viewT x.1.n x.2 (x.1.run x.1.L).2 ts := same_view x.1 um _
  rw [e] at tv2
  have hoL := (b.R.I.hist .tru).1
  exact alike_tv (tv1.mv (ks_kt k2)) tv2 (view_depth _) (view_wide hoL b.R.I.hh.n12 tl) fun H3 e3 => ⟨_, rfl, iteF (post _ _ ((p1.ks k2).ex e3))⟩
theorem s57 (L : Lw P w K mg base cs tb C) (hr : LRoom A s f c) : Does1 (LX P w K mg base f c A outer s H0 E0) (l5 7) (D2 K tb) (D2 K tb) := by
  refine ⟨_, ps_if (PW.pt (pw_or (pt_cmpR op_notBl (pe_call L.pt.G (hr.mono (by decide)) (by rfl) L.pt.m L.pt.k L.pt.b .nil (passX (E := E0) rfl rfl rfl rfl) (pa_cons (pv 2) (pa_cons pe_str (pa_cons (pv 3) (pa_cons (pv 5) (pa_cons (pv 6) (pa_cons pe_bl pa_nil))))))) pe_bl (nomark _))
    (pw_or1 (pt_cmpR op_notBl (pe_call L.pt.G (hr.mono (by decide)) (by rfl) L.pt.m L.pt.k L.pt.b .nil (passX (E := E0) rfl rfl rfl rfl) (pa_cons (pv 2) (pa_cons pe_str (pa_cons (pv 8) (pa_cons (pv 5) (pa_cons (pv 6) (pa_cons pe_bl pa_nil))))))) pe_bl (nomark _))))) (pss_one (ps_ret pe_bl)) pss_nil, fun x D σ H pre post => ?_⟩
  obtain ⟨lp, lo, M, s7, s8, tp, tvo, fm, um⟩ := pre.ot
  have b := pre.b
  refine ⟨.ref x.1.hs, b.s2, .ref x.1.lf, b.s3, .ref x.1.cf, b.s5, iV x.2, pre.s6, go_parted b.R pre.lt fun H1 k1 => ⟨false, false, rfl, rfl, _, rfl, iteF ?_⟩⟩
  have p1 := pre.ks k1
  have RN := p1.b.R.other (tvo.mv (ks_kt k1)) fm (len_of um)
  exact ⟨.ref x.1.hs, b.s2, .ref lo, s8, .ref x.1.cf, b.s5, iV x.2, pre.s6, go_parted RN pre.lt fun H2 k2 => ⟨false, false, rfl, rfl, _, rfl, iteF (post _ _ (p1.ks k2))⟩⟩
end
end K04

set_option maxHeartbeats 4000000
namespace K04
open PySem PySem.Spec PyProof.Rows L2 Hd Evl
theorem last_up {u : Nat} {L : LifeT} (h : L ≠ []) : lastOf (upT u L) = min (lastOf L) u := by
  unfold lastOf upT
  rw [List.getLast?_map]
  obtain ⟨x, hx⟩ : ∃ x, L.getLast? = some x := ⟨L.getLast h, List.getLast?_eq_some_getLast h⟩
  rw [hx]
  rfl
theorem places_sim {u m : Nat} {s s' : StT} (h : Sim u s s') : placesT s.known s.cells u m = placesT s'.known s'.cells u m := by
  have dead : ∀ (k : KnownT) (o : Option Held), lowO u o = none → (liveB k o && decide ((o.getD (0, 0, 0, 0)).1 = u)) = false := by
    intro k o e
    cases o with
    | none => rfl
    | some g =>
      have hd : ¬ g.1 ≤ u := fun z => by rw [lowO_some z] at e; cases e
      have : ¬ g.1 = u := fun z => hd (by omega)
      show (liveB k (some g) && decide (g.1 = u)) = false
      rw [decide_eq_false this, Bool.and_false]
  have one : ∀ c, (liveAt s.known s.cells c && decide ((heldAt s.cells c).1 = u)) = (liveAt s'.known s'.cells c && decide ((heldAt s'.cells c).1 = u)) ∧ ((liveAt s.known s.cells c && decide ((heldAt s.cells c).1 = u)) = true → heldAt s.cells c = heldAt s'.cells c) := by
    intro c
    have e := open_at h.op c
    unfold liveAt heldAt
    generalize s.cells.getD c none = o at e ⊢
    generalize s'.cells.getD c none = o' at e ⊢
    cases a : lowO u o with
    | none =>
      have d1 := dead s.known o a
      have d2 := dead s'.known o' (e ▸ a)
      rw [d1, d2]
      exact ⟨rfl, fun z => by cases z⟩
    | some g =>
      have ho : o = some g := by
        cases o with
        | none => cases a
        | some x =>
          by_cases c : x.1 ≤ u
          · rw [lowO_some c] at a
            exact a
          · rw [lowO_deep c] at a
            cases a
      have hl : g.1 ≤ u := Classical.byContradiction fun z => by rw [ho, lowO_deep z] at a; cases a
      rw [low_same e ho hl, ho]
      refine ⟨?_, fun _ => rfl⟩
      show (decide (s.known g.1 g.2.1 = some g.2.2) && _) = (decide (s'.known g.1 g.2.1 = some g.2.2) && _)
      rw [h.kn g.1 hl]
  unfold placesT
  have e1 : (List.range m).filter (fun c => liveAt s.known s.cells c && decide ((heldAt s.cells c).1 = u)) = (List.range m).filter (fun c => liveAt s'.known s'.cells c && decide ((heldAt s'.cells c).1 = u)) := List.filter_congr fun c _ => (one c).1
  rw [e1]
  refine List.map_congr_left fun c hc => ?_
  rw [(one c).2 (by rw [(one c).1]; exact (List.mem_filter.mp hc).2)]
section
variable {P : Program} {w : World} {K : PySem.W.Frag} {mg : Str → Option Value} {base : Heap} {cs : Cs} {tb : Tb} {f c C a : Addr} {ns : List Int} {A : Around} {outer : List Env} {s : Shared} {H0 : Hp} {E0 : XK}
def Lw.two (L : Lw P w K mg base cs tb C) : List (Addr × Sp) := [(L.f_wt, sp_waiting K cs tb), (L.f_pl, sp_places K cs tb)]
theorem Lw.ok_two (L : Lw P w K mg base cs tb C) : ∀ q ∈ L.two, FnR P w K mg base (L2.CX P w) 11 q.1 q.2 ∧ PySem.W.keepIn K (.ref q.1) = true := fun q hq => by
  simp only [Lw.two, List.mem_cons, List.mem_nil_iff, or_false] at hq
  rcases hq with rfl | rfl
  · exact Fn_k L.wt
  · exact Fn_k L.pl
theorem s58 (L : Lw P w K mg base cs tb C) (hr : LRoom A s f c) : Does1 (LX P w K mg base f c A outer s H0 E0) (l5 8) (D2 K tb) (fun x σ H => Bs K tb x.1 σ H) := by
  refine ⟨_, ps_if (pt_cmpR op_le (pv 6) (pe_ix ix_tup (pe_ix ix_tup (pv 3) (pe_un un_neg pe_int) (fun _ _ => rfl)) pe_int (fun _ _ => rfl)) (nomark _)) (pss_one (ps_for (passes_of rfl) rfl (pi_list (pe_lst (pa_cons (pe_glob (v := .ref L.f_wt) rfl L.wt.m rfl) (pa_cons (pe_glob (v := .ref L.f_pl) rfl L.pl.m rfl) pa_nil)))) (pg_name (i := 12) sc_law.nd rfl (Or.inl rfl))
    (pss_one (ps_if (pt_not (pt_val (pe_call (L.al 3).G (hr.mono (by decide)) (by rfl) (L.al 3).m (L.al 3).k (L.al 3).b .nil pass0 (pa_cons (pe_callAny (i := 12) (fs := L.two) (fun q hq => (L.ok_two q hq).1) (hr.mono (by decide)) (fun q hq => (L.ok_two q hq).2) (passX (E := E0) rfl rfl rfl rfl) (pa_cons (pv 2) (pa_cons pe_str (pa_cons (pv 3) (pa_cons (pv 5) (pa_cons (pv 6) pa_nil))))))
      (pa_cons (pe_callAny (i := 12) (fs := L.two) (fun q hq => (L.ok_two q hq).1) (hr.mono (by decide)) (fun q hq => (L.ok_two q hq).2) (passX (E := E0) rfl rfl rfl rfl) (pa_cons (pv 2) (pa_cons pe_str (pa_cons (pv 7) (pa_cons (pv 5) (pa_cons (pv 6) pa_nil)))))) pa_nil))))) (pss_one (ps_ret pe_bl)) pss_nil)))) pss_nil, fun x D σ H pre post => ?_⟩
  have b := pre.b
  obtain ⟨ss, hss, all⟩ := tv_ref b.R.I.tv
  have hl : ss.length = x.1.L.length := by rw [all.len, List.length_map]
  have hpos : 0 < x.1.L.length := List.length_pos_iff.mpr b.R.I.ne
  obtain ⟨sl, hsl, el⟩ := last_at b.R.I.ne
  obtain ⟨vl, hvl, tvl⟩ := tvAtD all hsl
  obtain ⟨t, q, us, rfl, g1, _, _⟩ := tv_sess tvl
  refine ⟨iV x.2, pre.s6, .ref x.1.lf, b.s3, 1, rfl, x.1.lf, ss, _, .ref t, rfl, rfl, SqT.of hss, atI_last (by omega) (by rw [hl]; exact hvl), t, _, _, iV sl.1, rfl, rfl, SqT.of g1, atI_nat (j := 0) rfl, _, _, rfl, rfl, _, rfl, ite2 (fun c1 => ?_) (fun c1 => post _ _ b)⟩
  have c1' : x.2 ≤ lastOf x.1.L := by have := of_decide_eq_true c1; rw [← el]; omega
  refine ⟨by show 2 ≤ sizeLine; decide, fun l nl => ⟨l, rfl, ⟨_, SqL.of upd_same⟩, ?_⟩⟩
  have eL := Ex.new (o := HO.lst [V.ref L.f_wt, V.ref L.f_pl]) nl
  obtain ⟨lp0, lo0, M0, s70, _⟩ := pre.ot
  refine for_list (xs := [V.ref L.f_wt, V.ref L.f_pl]) (fun i σ' G => D2 K tb x σ' G ∧ G l = some (.lst [V.ref L.f_wt, V.ref L.f_pl])) ⟨pre.ex eL, upd_same⟩ (fun i σ' G _ z => SqL.of z.2) (fun i v σ' G hx z => ?_) (fun σ' G z => post _ _ z.1.b)
  obtain ⟨d, gl⟩ := z
  have b := d.b
  obtain ⟨lp, lo, M, s7, s8, tp, tvo, fm, um⟩ := d.ot
  have n12 := b.R.I.hh.n12
  have S := (run_sim (u := x.2) x.1.n x.1.p x.1.c (setOf x.1.n x.1.k x.1.cn) x.1.L).s
  have le2 : x.2 ≤ lastOf (upT x.2 x.1.L) := by rw [last_up b.R.I.ne]; exact Nat.le_min.mpr ⟨c1', Nat.le_refl _⟩
  have hv := List.mem_of_getElem? hx
  simp only [List.mem_cons, List.mem_nil_iff, or_false] at hv
  have nxt : ∀ H3, Ks K G H3 → D2 K tb x (σ'.set 12 (some v)) H3 ∧ H3 l = some (.lst [V.ref L.f_wt, V.ref L.f_pl]) := fun H3 k3 => ⟨(d.ks k3).set (by decide), k3.l _ _ gl⟩
  rcases hv with rfl | rfl
  · refine ⟨(L.f_wt, sp_waiting K cs tb), List.mem_cons_self, gn b.len (by decide), .ref x.1.hs, gs b.s2 (by decide), .ref x.1.lf, gs b.s3 (by decide), .ref x.1.cf, gs b.s5 (by decide), iV x.2, gs d.s6 (by decide), go_waiting (w := .tru) b.R c1' fun v1 H1 tv1 k1 => ?_⟩
    have RP := (d.ks k1).plain (tp.mv (ks_kt k1))
    refine ⟨(L.f_wt, sp_waiting K cs tb), List.mem_cons_self, gn b.len (by decide), .ref x.1.hs, gs b.s2 (by decide), .ref lp, gs s7 (by decide), .ref x.1.cf, gs b.s5 (by decide), iV x.2, gs d.s6 (by decide), go_waiting (w := .tru) RP le2 fun v2 H2 tv2 k2 => ?_⟩
    have e := S.rw x.2 (Nat.le_refl _)
    have e' : (runT x.1.n .tru x.1.p x.1.c (setOf x.1.n x.1.k x.1.cn) (upT x.2 x.1.L)).1.rows.getD x.2 [] = (runT x.1.n .tru x.1.p x.1.c (setOf x.1.n x.1.k x.1.cn) x.1.L).1.rows.getD x.2 [] := e.symm
    rw [e'] at tv2
    have rl : ((runT x.1.n .tru x.1.p x.1.c (setOf x.1.n x.1.k x.1.cn) x.1.L).1.rows.getD x.2 []).length ≤ 100000 := by
      have rn := (b.R.I.rn .tru).rows
      have l12 := b.l12
      rw [List.getD_eq_getElem?_getD]
      cases eo : (runT x.1.n .tru x.1.p x.1.c (setOf x.1.n x.1.k x.1.cn) x.1.L).1.rows[x.2]? with
      | none => exact Nat.zero_le _
      | some y =>
        have := rn y (List.mem_of_getElem? eo)
        show y.length ≤ 100000
        omega
    refine alike_tv (m := 2) (tv1.mv (ks_kt k2)) tv2 (Nat.le_trans (depth_map (n := 1) int_depth _) (Nat.le_refl _)) (wide_map rl fun y _ => int_wide y) fun H3 e3 => ⟨_, rfl, iteF (nxt H3 ((k1.trans k2).trans (Ks.ex e3)))⟩
  · refine ⟨(L.f_pl, sp_places K cs tb), List.mem_cons_of_mem _ List.mem_cons_self, gn b.len (by decide), .ref x.1.hs, gs b.s2 (by decide), .ref x.1.lf, gs b.s3 (by decide), .ref x.1.cf, gs b.s5 (by decide), iV x.2, gs d.s6 (by decide), go_places (w := .tru) b.R c1' fun v1 H1 l1 tv1 pm1 pw1 k1 => ?_⟩
    have RP := (d.ks k1).plain (tp.mv (ks_kt k1))
    refine ⟨(L.f_pl, sp_places K cs tb), List.mem_cons_of_mem _ List.mem_cons_self, gn b.len (by decide), .ref x.1.hs, gs b.s2 (by decide), .ref lp, gs s7 (by decide), .ref x.1.cf, gs b.s5 (by decide), iV x.2, gs d.s6 (by decide), go_places (w := .tru) RP le2 fun v2 H2 l2 tv2 pm2 pw2 k2 => ?_⟩
    have e := places_sim (m := x.1.n) S
    have pm3 : l1.Perm l2 := (pm1.trans (List.Perm.of_eq e)).trans pm2.symm
    have el : l1 = l2 := sorted_uniq (fun _ _ => ple_anti) pm3 pw1 pw2
    subst el
    have pll : l1.length ≤ 12 := by
      rw [pm1.length_eq]
      unfold placesT
      rw [List.length_map]
      refine Nat.le_trans (List.length_filter_le _ _) ?_
      rw [List.length_range]
      exact n12
    refine alike_tv (m := 2) (tv1.mv (ks_kt k2)) tv2 (depth_map (n := 1) (fun x => by simp [pairP, intP, PyData.depth, PyData.depthAll]) _) (wide_map (Nat.le_trans pll (by decide)) fun x _ => by simp [pairP, intP, wideD, wideAll]) fun H3 e3 => ⟨_, rfl, iteF (nxt H3 ((k1.trans k2).trans (Ks.ex e3)))⟩
theorem l5_body : forB (lawSt 5) = [l5 0, l5 1, l5 2, l5 3, l5 4, l5 5, l5 6, l5 7, l5 8] := rfl
theorem st5 (L : Lw P w K mg base cs tb C) (hr : LRoom A s f c) : Does (LX P w K mg base f c A outer s H0 E0) (lawSt 5) (AtB K tb) (AtB K tb) := by
  obtain ⟨tbd, pb, qb⟩ : DoesP (LX P w K mg base f c A outer s H0 E0) (forB (lawSt 5)) (D1 K tb) (fun x σ H => Bs K tb x.1 σ H) := by
    rw [l5_body]
    exact doesP_cons (s50 L hr) (doesP_cons (s51 L hr) (doesP_cons (s52 L hr) (doesP_cons (s53 L hr) (doesP_cons (s54 L hr) (doesP_cons (s55 L hr) (doesP_cons (s56 L hr) (doesP_cons (s57 L hr) (doesP_one (s58 L hr)))))))))
  refine ⟨_, ps_for (passes_of rfl) rfl (pi_range1 (by rfl) L.B.range (pa_cons (pe_ix ix_tup (pv 2) pe_int (fun _ _ => rfl)) pa_nil)) (pg_name (i := 6) sc_law.nd rfl (Or.inl rfl)) pb, fun D σ H pre post => ?_⟩
  obtain ⟨x, b⟩ := pre
  have hh := b.R.I.hh
  have d4 := hh.d4
  refine ⟨.ref x.hs, b.s2, x.hs, _, _, .int x.d, rfl, rfl, SqT.of hh.at_, atI_nat (j := 2) rfl, (x.d : Int), rfl, by omega, by omega, ?_⟩
  refine for_range (lo := 0) (n := x.d) (fun i σ G => Bs K tb x σ G) b (fun i σ G hi z => ?_) (fun σ G z => post _ _ ⟨x, z⟩)
  rw [Int.zero_add]
  exact qb (x, i) _ _ _ ⟨z.set (by decide), gn z.len (by decide), hi⟩ fun σ' H' z => z
end
end K04

set_option maxHeartbeats 4000000
namespace K04
open PySem PySem.Spec PyProof.Rows L2 Hd Evl
/-! ### one session with all keys -/
def knPuts (S : StoryT) : KnownT := S.foldl (fun k m => m.foldl putK1 k) kn0
theorem puts_known {copies : Nat} : ∀ (m : MomT) (s : StT), (m.foldl (StT.put copies) s).known = m.foldl putK1 s.known
  | [], _ => rfl
  | x :: m, s => puts_known m (s.put copies x)
theorem story_known {w : Way} {copies : Nat} {sets : Nat → List Nat} : ∀ (t : StoryT) (s : StT × HistT), (t.foldl (momT w copies sets) s).1.known = t.foldl (fun k m => m.foldl putK1 k) s.1.known
  | [], _ => rfl
  | m :: t, s => by
    refine (story_known t _).trans ?_
    show t.foldl _ (m.foldl (StT.put copies) s.1).known = _
    rw [puts_known]
    rfl
theorem none_known (u n : Nat) : knownOf u (List.replicate n none) = kn0 := by
  unfold knownOf
  induction n with
  | zero => rfl
  | succ n ih =>
    rw [List.replicate_succ]
    exact ih
theorem full_known {n p c u : Nat} {w : Way} {sets : Nat → List Nat} (S : StoryT) : (runT n w p c sets [(u, S)]).1.known = knPuts S := by
  refine (story_known S _).trans ?_
  show S.foldl _ (knownOf u (List.replicate n none)) = _
  rw [none_known]
  rfl
/-- what does not wait is found again -/
theorem later_known {pages u : Nat} {s : StT} (G : Good pages u s) {d p : Nat} (hd : d ≤ u) (h : ¬ p ∈ s.rows.getD d []) : knownOf u s.cells d p = s.known d p := by
  obtain ⟨k1, k2⟩ := known_all (m := u) G.toCellsOk
  cases a : s.known d p with
  | none =>
    cases b : knownOf u s.cells d p with
    | none => rfl
    | some x =>
      obtain ⟨_, hx⟩ := k2 d p x b
      obtain ⟨y, hy, _⟩ := G.low _ hx hd
      have hy' : s.known d p = some y := hy
      rw [a] at hy'
      cases hy'
  | some x =>
    rcases G.held d p x a with z | z
    · exact absurd z h
    · obtain ⟨x', hx', le⟩ := k1 _ z hd
      have hx2 : knownOf u s.cells d p = some x' := hx'
      obtain ⟨_, hc⟩ := k2 d p x' hx2
      obtain ⟨y, hy, v1, v2⟩ := G.low _ hc hd
      have hy' : s.known d p = some y := hy
      rw [a] at hy'
      cases hy'
      have le' : x.1 ≤ x'.1 := le
      have v1' : x'.1 ≤ x.1 := v1
      have e1 : x'.1 = x.1 := Nat.le_antisymm v1' le'
      have e2 : x'.2 = x.2 := v2 e1
      rw [hx2]
      exact congrArg some (Prod.ext e1 e2)
/-- behind the drawn story -/
structure Cs1 (K : PySem.W.Frag) (tb : Tb) (x : Pr) (S : StoryT) (st D : Addr) (σ : L2.St) (H : Hp) : Prop where
  b : Bs K tb x σ H
  s13 : σ[13]? = some (some (.ref st))
  s14 : σ[14]? = some (some (.ref D))
  tv : Tv H (.ref st) (storyP S)
  len : S.length = lenT x.L
  ok : ∀ m ∈ S, m.length ≤ 3 ∧ ∀ y ∈ m, OkDeed (x.d - 1) x.p y
def AtC (K : PySem.W.Frag) (tb : Tb) (σ : L2.St) (H : Hp) : Prop := ∃ x S st D, Cs1 K tb x S st D σ H ∧ KnAt H D kn0 0
structure Ds1 (K : PySem.W.Frag) (tb : Tb) (x : Pr) (S : StoryT) (st D fu : Addr) (σ : L2.St) (H : Hp) : Prop extends Cs1 K tb x S st D σ H where
  s15 : σ[15]? = some (some (.ref fu))
  tf : Tv H (.ref fu) (lifeP [(x.d - 1, S)])
theorem tabG_kx {D Pt : Addr} {kvs : List (List Key × V)} {H H1 : Hp} (hD : H D = some (.dT kvs)) (k : Kx (· = D) H H1) (T : GxR.TabG H Pt) : GxR.TabG H1 Pt := by
  obtain ⟨ps, h1, h2⟩ := T
  exact ⟨ps, k _ _ (fun e => by rw [e, hD] at h1; cases h1) h1, h2⟩
theorem Rw.kx {K : PySem.W.Frag} {D r a : Addr} {ns : List Int} {n : Nat} {kn : KnownT} {H H1 : Hp} (hD : KnAt H D kn n) (k : Kx (· = D) H H1) (W : Rw K r a ns H) : Rw K r a ns H1 := by
  obtain ⟨kvs, hd, _⟩ := hD.go
  obtain ⟨i, sd, rs, h, b⟩ := W.row
  refine ⟨⟨i, sd, rs, k _ _ (fun e => by rw [e, hd] at h; cases h) h, b⟩, ?_⟩
  rcases W.src with q | ⟨n, q | ⟨o, q⟩⟩
  · exact .inl q
  · exact .inr ⟨n, .inl (k _ _ (fun e => by rw [e, hd] at q; cases q) q)⟩
  · exact .inr ⟨n, .inr ⟨o, k _ _ (fun e => by rw [e, hd] at q; cases q) q⟩⟩
/-- the dict has changed, later slots too -/
theorem Ds1.mv {K : PySem.W.Frag} {tb : Tb} {x : Pr} {S : StoryT} {st D fu : Addr} {σ σ' : L2.St} {H H1 : Hp} {kn : KnownT} {n : Nat} (q : Ds1 K tb x S st D fu σ H) (hD : KnAt H D kn n) (k : Kx (· = D) H H1) (hl : σ'.length = 21) (hs : ∀ j, j < 16 → σ'[j]? = σ[j]?) : Ds1 K tb x S st D fu σ' H1 := by
  obtain ⟨kvs, hd, _⟩ := id hD.go
  have kt : Kt H H1 := k.kt fun b e xs => e ▸ hD.notup xs
  have b := q.b
  have t : ∀ {Pt : Addr}, GxR.TabG H Pt → GxR.TabG H1 Pt := fun T => tabG_kx hd k T
  have bb : Bs K tb x σ' H1 := ⟨hl, (hs 1 (by decide)).trans b.s1, (hs 2 (by decide)).trans b.s2, (hs 3 (by decide)).trans b.s3, (hs 4 (by decide)).trans b.s4, (hs 5 (by decide)).trans b.s5, Rw.kx hD k b.W,
    { b.R with I := { b.R.I with hh := { b.R.I.hh with at_ := kt _ _ b.R.I.hh.at_ }, tv := b.R.I.tv.mv kt, hcf := kt _ _ b.R.I.hcf, tb := t b.R.I.tb }, m := t b.R.m, s := t b.R.s, n := t b.R.n, p := t b.R.p, u := t b.R.u, a := t b.R.a }, b.l12⟩
  exact ⟨⟨bb, (hs 13 (by decide)).trans q.s13, (hs 14 (by decide)).trans q.s14, q.tv.mv kt, q.len, q.ok⟩, (hs 15 (by decide)).trans q.s15, q.tf.mv kt⟩
theorem far {σ : L2.St} {i j : Nat} {v : Option V} (h : j < 16) (g : 16 ≤ i) : (σ.set i v)[j]? = σ[j]? := List.getElem?_set_ne (by omega)
def AtD (K : PySem.W.Frag) (tb : Tb) (σ : L2.St) (H : Hp) : Prop := ∃ x S st D fu, Ds1 K tb x S st D fu σ H ∧ KnAt H D kn0 0
def AtE (K : PySem.W.Frag) (tb : Tb) (σ : L2.St) (H : Hp) : Prop := ∃ x S st D fu, Ds1 K tb x S st D fu σ H ∧ KnAt H D (knPuts S) 1000
section
variable {P : Program} {w : World} {K : PySem.W.Frag} {mg : Str → Option Value} {base : Heap} {cs : Cs} {tb : Tb} {f c C a : Addr} {ns : List Int} {A : Around} {outer : List Env} {s : Shared} {H0 : Hp} {E0 : XK}
theorem st6 (L : Lw P w K mg base cs tb C) (hr : LRoom A s f c) : Does (LX P w K mg base f c A outer s H0 E0) (lawSt 6) (AtB K tb) (AtC K tb) := by
  refine ⟨_, ps_par (i := 13) (j := 14) (by rfl) sc_law.nd rfl rfl (by decide) rfl rfl (pa_cons (pe_callTy call_tuple_of (by rfl) L.B.tuple (by decide +kernel) (pa_cons (pe_lc (own := [("k", 20)]) (g := gName 20) (by rfl) sc_law.nd (pi_range1 (by rfl) L.B.range (pa_cons (pv 4) pa_nil)) (blkOk_by (own := [("k", 20)]) (N := n_law) (sc := defScope s_law) (by decide +kernel)) (fun _ _ _ _ _ => pg_name (i := 20) sc_law.nd rfl (Or.inl rfl)) (fun _ _ _ _ _ => pts_nil)
    (fun _ _ _ _ _ => pe_call L.mo.G (hr.mono (by decide)) (by rfl) L.mo.m L.mo.k L.mo.b .nil pass0 (pa_cons (pv 1) (pa_cons (pv 2) (pa_cons (pe_op (op_sub : OpR _ _ (rI0 fun i j => .int (i - j))) (pe_ix (ix_tup : IxR _ (rIxT K)) (pv 2) pe_int (fun _ _ => rfl)) pe_int) (pa_cons pe_int pa_nil)))))) pa_nil)) (pa_cons pe_dnewT pa_nil)) (by rfl), fun D σ H pre post => ?_⟩
  obtain ⟨x, b⟩ := pre
  have l12 := b.l12
  have d1 := b.R.I.hh.d1
  refine ⟨iV (lenT x.L), b.s4, ((lenT x.L : Nat) : Int), rfl, by omega, by omega, fun D nD => ?_⟩
  refine lc_range (lo := 0) (n := lenT x.L) (fun i G => ∃ (S : StoryT) (ws : List V), S.length = i ∧ (∀ m ∈ S, m.length ≤ 3 ∧ ∀ y ∈ m, OkDeed (x.d - 1) x.p y) ∧ G D = some (.lst ws) ∧ TvAll G ws (S.map momP) ∧ Kq x.r H G ∧ Rw K x.r x.a x.ns G) ⟨[], [], rfl, (fun m h => by cases h), upd_same, .nil, Kq.ex (Ex.new nD), b.W.ex (Ex.new nD)⟩ (fun i G hi z => ?_) (fun G z => ?_)
  · obtain ⟨S, ws, sl, sok, gD, tv, kG, WG⟩ := z
    have hhG := b.R.I.hh.kq b.W kG
    refine ⟨wp2, yes_go ⟨.ref x.r, wg b.s1 (by decide), .ref x.hs, wg b.s2 (by decide), .ref x.hs, wg b.s2 (by decide), x.hs, _, _, iV x.d, rfl, rfl, SqT.of hhG.at_, atI_nat (j := 2) rfl, _, _, rfl, rfl, x.r, x.a, x.hs, x.ns, x.n, x.k, x.d, x.p, x.c, x.d - 1, 3, ?_, WG, hhG, by omega, by decide, fun t m H' tvm mok kq W' => ?_⟩⟩
    · show [V.ref x.r, V.ref x.hs, V.int ((x.d : Int) - 1), V.int 3] = [V.ref x.r, V.ref x.hs, iV (x.d - 1), iV 3]
      rw [show ((x.d : Nat) : Int) - 1 = ((x.d - 1 : Nat) : Int) by omega]
      rfl
    · have nDr := b.W.ne nD
      have gD1 := kq _ _ nDr gD
      refine ⟨ws, gD1, ?_, S ++ [m], ws ++ [.ref t], by rw [List.length_append, sl] <;> rfl, fun y hy => ?_, upd_same, ?_, (kG.trans kq).put nD, W'.put b.W nD gD1⟩
      · rw [tv.len, List.length_map, sl]
        exact Nat.lt_of_lt_of_le hi (Nat.le_trans l12 (by decide))
      · rcases List.mem_append.mp hy with z | z
        · exact sok y z
        · rw [List.mem_singleton.mp z]
          exact mok
      · rw [List.map_append]
        exact ((tv.mv (kq.kt WG)).app (.cons tvm .nil)).mv (Kt.put gD1)
  · obtain ⟨S, ws, sl, sok, gD, tv, kG, WG⟩ := z
    refine ⟨D, ws, rfl, .inl ⟨SqL.of gD, fun t nt => ?_⟩⟩
    have et := Ex.new (o := HO.tup ws) nt
    intro kd nkd
    have ek := Ex.new (o := HO.dT []) nkd
    have bb := ((b.kq kG WG).ex et).ex ek
    refine ⟨_, _, rfl, post _ _ ⟨x, S, t, kd, ⟨(bb.set (by decide)).set (by decide), gs (gn b.len (by decide)) (by decide), gn (by rw [List.length_set]; exact b.len) (by decide), .tup (ek _ _ upd_same) ((tv.mv (Kt.ex et)).mv (Kt.ex ek)), sl, sok⟩, ⟨[], upd_same, Nat.le_refl 0, fun _ _ => True.intro⟩⟩⟩
theorem st7 : Does (LX P w K mg base f c A outer s H0 E0) (lawSt 7) (AtC K tb) (AtD K tb) := by
  refine ⟨_, ps_set (i := 15) sc_law.nd rfl (Or.inl rfl) (pe_tup (pa_cons (pe_tup (pa_cons (pe_op op_sub (pe_ix ix_tup (pv 2) pe_int (fun _ _ => rfl)) pe_int) (pa_cons (pv 13) pa_nil))) pa_nil)), fun D σ H pre post => ?_⟩
  obtain ⟨x, S, st, Dk, q, kn⟩ := pre
  have b := q.b
  have d1 := b.R.I.hh.d1
  refine ⟨.ref x.hs, b.s2, x.hs, _, _, iV x.d, rfl, rfl, SqT.of b.R.I.hh.at_, atI_nat (j := 2) rfl, _, _, rfl, rfl, .ref st, q.s13, by show 2 ≤ sizeLine; decide, fun t1 n1 => ?_⟩
  have e1 := Ex.new (o := HO.tup [V.int ((x.d : Nat) - 1), V.ref st]) n1
  refine ⟨by show 1 ≤ sizeLine; decide, fun t2 n2 => ?_⟩
  have e2 := Ex.new (o := HO.tup [V.ref t1]) n2
  have e12 := e1.trans e2
  have g1 : upd (upd H t1 (.tup [V.int ((x.d : Nat) - 1), V.ref st])) t2 (.tup [V.ref t1]) t1 = some (.tup [iV (x.d - 1), V.ref st]) := by
    rw [show iV (x.d - 1) = V.int ((x.d : Nat) - 1) by show V.int ((x.d - 1 : Nat) : Int) = _; rw [show ((x.d - 1 : Nat) : Int) = ((x.d : Nat) : Int) - 1 by omega]]
    exact e2 _ _ upd_same
  exact post _ _ ⟨x, S, st, Dk, t2, ⟨⟨(b.ex e12).set (by decide), gs q.s13 (by decide), gs q.s14 (by decide), q.tv.mv (Kt.ex e12), q.len, q.ok⟩, gn b.len (by decide), .tup upd_same (.cons (.tup g1 (.cons (.int _) (.cons (q.tv.mv (Kt.ex e12)) .nil))) .nil)⟩, kn.ex e12⟩
theorem st8 (L : Lw P w K mg base cs tb C) (hr : LRoom A s f c) : Does (LX P w K mg base f c A outer s H0 E0) (lawSt 8) (AtD K tb) (AtE K tb) := by
  have hu := hu_of hr
  refine ⟨_, ps_for (passes_of rfl) rfl (pi_tup (pv 13)) (pg_name (i := 16) sc_law.nd rfl (Or.inl rfl)) (pss_one (ps_for (passes_of rfl) rfl (pi_tup (pv 16)) (pg_name (i := 17) sc_law.nd rfl (Or.inl rfl))
    (pss_one (ps_dput hu (pv 14) (pe_slice sl_tup (pv 17) po_none (po_some pe_int)) (pe_tup (pa_cons (pe_op op_add (pe_ix ix_tup (pe_dget2 hu (pv 14) (pe_slice sl_tup (pv 17) po_none (po_some pe_int)) (pe_tup (pa_cons pe_int (pa_cons pe_int pa_nil))) ⟨rfl, rfl, rfl, rfl⟩) pe_int (fun _ _ => rfl)) pe_int) (pa_cons (pe_ix ix_tup (pv 17) pe_int (fun _ _ => rfl)) pa_nil))) rfl)))), fun D σ H pre post => ?_⟩
  obtain ⟨x, S, st, Dk, fu, q, kn⟩ := pre
  obtain ⟨st', us, e0, hst, all⟩ := tvTup q.tv
  cases e0
  have ul : us.length = S.length := by rw [all.len, List.length_map]
  have Sl := q.len
  have l12 := q.b.l12
  have nDst : st ≠ Dk := fun e => kn.notup _ (e ▸ hst)
  refine ⟨.ref st, q.s13, st, rfl, ⟨us, SqT.of hst⟩, ?_⟩
  refine for_tup (xs := us) (fun i σ' G => σ'.length = 21 ∧ (∀ j, j < 16 → σ'[j]? = σ[j]?) ∧ KnAt G Dk (knPuts (S.take i)) (3 * i) ∧ Kx (· = Dk) H G) ⟨q.b.len, fun _ _ => rfl, kn, Kx.refl⟩ (fun i σ' G _ z => SqT.of (z.2.2.2 _ _ nDst hst)) (fun i v σ' G hx z => ?_) (fun σ' G z => ?_)
  · obtain ⟨len, hs, kn1, kx⟩ := z
    have kt : Kt H G := kx.kt fun b e xs => e ▸ kn.notup xs
    obtain ⟨m, hm, tvm⟩ := tv_at all hx
    have il : i < S.length := (List.getElem?_eq_some_iff.mp hm).1
    obtain ⟨m3, _⟩ := q.ok m (List.mem_of_getElem? hm)
    obtain ⟨mt, dsv, rfl, hmt, a3⟩ := tv_tup (tvm.mv kt)
    have dl : dsv.length = m.length := by rw [a3.len, List.length_map]
    have nDm : mt ≠ Dk := fun e => kn1.notup _ (e ▸ hmt)
    refine ⟨.ref mt, gn len (by decide), mt, rfl, ⟨dsv, SqT.of hmt⟩, ?_⟩
    refine for_tup (xs := dsv) (fun j σ2 G2 => σ2.length = 21 ∧ (∀ j, j < 16 → σ2[j]? = σ[j]?) ∧ KnAt G2 Dk ((m.take j).foldl putK1 (knPuts (S.take i))) (3 * i + j) ∧ Kx (· = Dk) G G2) ⟨by rw [List.length_set]; exact len, fun j hj => (far hj (by decide)).trans (hs j hj), kn1, Kx.refl⟩ (fun j σ2 G2 _ z => SqT.of (z.2.2.2 _ _ nDm hmt)) (fun j v σ2 G2 hx z => ?_) (fun σ2 G2 z => ?_)
    · obtain ⟨len2, hs2, kn2, kx2⟩ := z
      have kt2 : Kt G G2 := kx2.kt fun b e xs => e ▸ kn1.notup xs
      obtain ⟨y, hy, tvy⟩ := tv_at a3 hx
      have jl : j < m.length := (List.getElem?_eq_some_iff.mp hy).1
      obtain ⟨dt, rfl, hdt⟩ := tv_deed (tvy.mv kt2)
      obtain ⟨dd, pg, ct⟩ := y
      have s14 : (σ2.set 17 (some (V.ref dt)))[14]? = some (some (.ref Dk)) := (far (by decide) (by decide)).trans ((hs2 14 (by decide)).trans q.s14)
      have s17 : (σ2.set 17 (some (V.ref dt)))[17]? = some (some (.ref dt)) := gn len2 (by decide)
      have step : (m.take (j + 1)).foldl putK1 (knPuts (S.take i)) = putK1 ((m.take j).foldl putK1 (knPuts (S.take i))) (dd, pg, ct) := by
        rw [take_snoc hy, List.foldl_append]
        rfl
      generalize hk0 : (m.take j).foldl putK1 (knPuts (S.take i)) = k0 at kn2 step
      refine ⟨.ref Dk, s14, Dk, rfl, kn2.is, .ref dt, s17, ?_⟩
      dsimp only [tNoPart]
      refine ⟨2, rfl, dt, _, rfl, SqT.of hdt, (by show ¬ (0 = 0 ∧ 2 = 3); omega), fun p1 n1 => ?_⟩
      have e1 := Ex.new (o := HO.tup (cutV [iV dd, iV pg, iV ct] none (some 2))) n1
      have hp1 : upd G2 p1 (HO.tup (cutV [iV dd, iV pg, iV ct] none (some 2))) p1 = some (.tup [nV dd, nV pg]) := upd_same
      refine ⟨by show 2 ≤ sizeLine; decide, fun p2 n2 => ?_⟩
      have e2 := Ex.new (o := HO.tup [V.int 0, V.int 0]) n2
      have kn3 := (kn2.ex e1).ex e2
      obtain ⟨o, dg, kv⟩ := kn3.get (b := p1) (e2 _ _ hp1)
      refine ⟨o, dg, ?_⟩
      obtain ⟨t2, c2, eo, h2⟩ : ∃ t2 c2, o.getD (V.ref p2) = .ref t2 ∧ upd (upd G2 p1 (HO.tup (cutV [iV dd, iV pg, iV ct] none (some 2)))) p2 (HO.tup [V.int 0, V.int 0]) t2 = some (.tup [iV (verOf k0 dd pg), c2]) := by
        unfold verOf
        cases ex : k0 dd pg with
        | none =>
          rw [ex] at kv
          cases o with
          | some v => exact kv.elim
          | none => exact ⟨p2, V.int 0, rfl, upd_same⟩
        | some z =>
          rw [ex] at kv
          cases o with
          | none => exact kv.elim
          | some v =>
            obtain ⟨t2, rfl, h2⟩ := tvPair (show Tv _ v (pairP z) from kv)
            exact ⟨t2, _, rfl, h2⟩
      refine ⟨t2, _, _, iV (verOf k0 dd pg), eo, rfl, SqT.of h2, atI_nat (j := 0) rfl, _, _, rfl, rfl, ?_⟩
      have hdt2 := (e1.trans e2) _ _ hdt
      refine ⟨.ref dt, s17, dt, _, _, iV ct, rfl, rfl, SqT.of hdt2, atI_nat (j := 2) rfl, by show 2 ≤ sizeLine; decide, fun p3 n3 => ?_⟩
      have e3 := Ex.new (o := HO.tup [iV (verOf k0 dd pg + 1), iV ct]) n3
      refine ⟨.ref Dk, s14, .ref dt, s17, ?_⟩
      dsimp only [tNoPart]
      refine ⟨2, rfl, dt, _, rfl, SqT.of (e3 _ _ hdt2), (by show ¬ (0 = 0 ∧ 2 = 3); omega), fun p4 n4 => ?_⟩
      have e4 := Ex.new (o := HO.tup (cutV [iV dd, iV pg, iV ct] none (some 2))) n4
      have kn4 := (kn3.ex e3).ex e4
      obtain ⟨H', dp, kn5, kx5⟩ := kn4.put (b := p4) (d := dd) (p := pg) (x := (verOf k0 dd pg + 1, ct)) (v := .ref p3) upd_same (.tup (e4 _ _ (show upd _ p3 (HO.tup [iV (verOf k0 dd pg + 1), iV ct]) p3 = _ from upd_same)) (.cons (.int _) (.cons (.int _) .nil))) (Nat.lt_of_le_of_lt (show 3 * i + j ≤ 100 by omega) (by decide))
      refine ⟨Dk, H', rfl, dp, by rw [List.length_set]; exact len2, fun j hj => (far hj (by decide)).trans (hs2 j hj), ?_, (kx2.trans (Kx.ex (((e1.trans e2).trans e3).trans e4))).trans kx5⟩
      rw [step]
      exact kn5
    · obtain ⟨len2, hs2, kn2, kx2⟩ := z
      rw [dl, List.take_length] at kn2
      refine ⟨len2, hs2, ?_, kx.trans kx2⟩
      have e : knPuts (S.take (i + 1)) = m.foldl putK1 (knPuts (S.take i)) := by
        unfold knPuts
        rw [take_snoc hm, List.foldl_append]
        rfl
      rw [e]
      exact kn2.le (by omega)
  · obtain ⟨len, hs, kn1, kx⟩ := z
    rw [ul, List.take_length] at kn1
    exact post _ _ ⟨x, S, st, Dk, fu, q.mv kn kx len hs, kn1.le (by omega)⟩
end
end K04

set_option maxHeartbeats 4000000
namespace K04
open PySem PySem.Spec PyProof.Rows L2 Hd Evl
theorem opt_depth (x : Option (Nat × Nat)) : PyData.depth (optP x) ≤ 1 := by
  cases x <;> simp [optP, pairP, intP, PyData.depth, PyData.depthAll]
theorem opt_wide (x : Option (Nat × Nat)) : wideD (optP x) ≤ 100000 := by
  cases x <;> simp [optP, pairP, intP, wideD, wideAll]
theorem inV_nat (x : Nat) : ∀ l : List Nat, inV (iV x) (l.map iV) = decide (x ∈ l)
  | [] => rfl
  | y :: l => by
    show (eqV (iV y) (iV x) || inV (iV x) (l.map iV)) = _
    rw [inV_nat x l]
    have : eqV (iV y) (iV x) = decide (x = y) := by
      by_cases e : x = y
      · subst e
        simp [eqV]
      · simp [eqV, e]
        omega
    rw [this]
    by_cases e : x = y <;> simp [e]
theorem flat_nat : ∀ l : List Nat, (l.map iV).all flatV = true
  | [] => rfl
  | _ :: l => by
    show (true && (l.map iV).all flatV) = true
    rw [flat_nat l] <;> rfl
theorem tvIntsEq {H : Hp} : ∀ {zs : List V} {l : List Nat}, TvAll H zs (l.map intP) → zs = l.map iV := by
  intro zs l
  induction l generalizing zs with
  | nil => intro h; cases h; rfl
  | cons a l ih =>
    intro h
    cases h with
    | cons h1 h2 =>
      cases h1
      rw [ih h2]
      rfl
/-! ### what is read of the full session -/
structure Es (K : PySem.W.Frag) (tb : Tb) (x : Pr) (S : StoryT) (st D fu : Addr) (σ : L2.St) (H : Hp) : Prop extends Ds1 K tb x S st D fu σ H where
  kn : KnAt H D (knPuts S) 1000
abbrev Pr.full (x : Pr) (S : StoryT) : StT × HistT := runT x.n .tru x.p x.c (setOf x.n x.k x.cn) [(x.d - 1, S)]
structure Pq where
  x : Pr
  S : StoryT
  st : Addr
  D : Addr
  fu : Addr
abbrev EsP (K : PySem.W.Frag) (tb : Tb) (q : Pq) (σ : L2.St) (H : Hp) : Prop := Es K tb q.x q.S q.st q.D q.fu σ H
structure F1 (K : PySem.W.Frag) (tb : Tb) (y : Pq × Nat) (σ : L2.St) (H : Hp) : Prop where
  q : EsP K tb y.1 σ H
  s6 : σ[6]? = some (some (iV y.2))
  lt : y.2 < y.1.x.d
structure F2 (K : PySem.W.Frag) (tb : Tb) (y : Pq × Nat) (σ : L2.St) (H : Hp) : Prop extends F1 K tb y σ H where
  wt : ∃ v, σ[18]? = some (some v) ∧ Tv H v (.tuple (((y.1.x.full y.1.S).1.rows.getD y.2 []).map intP))
structure F3 (K : PySem.W.Frag) (tb : Tb) (y : (Pq × Nat) × Nat) (σ : L2.St) (H : Hp) : Prop extends F2 K tb y.1 σ H where
  s19 : σ[19]? = some (some (iV y.2))
  lp : y.2 < y.1.1.x.p
section
variable {K : PySem.W.Frag} {tb : Tb} {x : Pr} {S : StoryT} {st D fu : Addr} {σ : L2.St} {H H1 : Hp} {i : Nat} {v : Option V}
theorem Es.set (q : Es K tb x S st D fu σ H) (h : i = 6 ∨ 16 ≤ i) : Es K tb x S st D fu (σ.set i v) H :=
  { q with b := q.b.set (by omega), s13 := gs q.s13 (by omega), s14 := gs q.s14 (by omega), s15 := gs q.s15 (by omega) }
theorem Es.ks (q : Es K tb x S st D fu σ H) (e : Ks K H H1) : Es K tb x S st D fu σ H1 := by
  obtain ⟨kvs, a, b, c⟩ := q.kn.go
  exact { q with b := q.b.ks e, tv := q.tv.mv (ks_kt e), tf := q.tf.mv (ks_kt e), kn := ⟨kvs, e.e _ _ a (fun ps z => by cases z), b, fun d p => (c d p).kt (ks_kt e)⟩ }
theorem Es.run (q : Es K tb x S st D fu σ H) : RunOf tb x.hs fu x.cf x.n x.k x.d x.p x.c [(x.d - 1, S)] x.cn H := by
  have d1 := q.b.R.I.hh.d1
  have l12 := q.b.l12
  have hl := q.len
  have e : lenT [(x.d - 1, S)] = S.length := by simp [lenT]
  refine q.b.R.other q.tf ⟨by simp, by simp, fun s hs => ?_, by rw [e]; omega⟩ (by rw [e]; exact hl)
  rw [List.mem_singleton.mp hs]
  exact ⟨by show x.d - 1 < x.d; omega, fun m hm => ⟨by have := (q.ok m hm).1; omega, (q.ok m hm).2⟩⟩
variable {y : Pq × Nat}
theorem F1.ks (f : F1 K tb y σ H) (e : Ks K H H1) : F1 K tb y σ H1 := ⟨f.q.ks e, f.s6, f.lt⟩
theorem F1.set (f : F1 K tb y σ H) (h : 16 ≤ i) : F1 K tb y (σ.set i v) H := ⟨f.q.set (.inr h), gs f.s6 (by omega), f.lt⟩
theorem F2.ks (f : F2 K tb y σ H) (e : Ks K H H1) : F2 K tb y σ H1 := ⟨f.toF1.ks e, let ⟨v, a, t⟩ := f.wt; ⟨v, a, t.mv (ks_kt e)⟩⟩
theorem F2.set (f : F2 K tb y σ H) (h : 19 ≤ i) : F2 K tb y (σ.set i v) H := ⟨f.toF1.set (by omega), let ⟨v, a, t⟩ := f.wt; ⟨v, gs a (by omega), t⟩⟩
theorem F3.ks {y : (Pq × Nat) × Nat} (f : F3 K tb y σ H) (e : Ks K H H1) : F3 K tb y σ H1 := ⟨f.toF2.ks e, f.s19, f.lp⟩
end
abbrev l9 (i : Nat) : Stmt := (forB (lawSt 9)).getD i (.Pass ⟨0, 0, 0, 0⟩)
abbrev l91 (i : Nat) : Stmt := (forB (l9 1)).getD i (.Pass ⟨0, 0, 0, 0⟩)
def AtF (K : PySem.W.Frag) (tb : Tb) (σ : L2.St) (H : Hp) : Prop := ∃ q : Pq, EsP K tb q σ H
section
variable {P : Program} {w : World} {K : PySem.W.Frag} {mg : Str → Option Value} {base : Heap} {cs : Cs} {tb : Tb} {f c C a : Addr} {ns : List Int} {A : Around} {outer : List Env} {s : Shared} {H0 : Hp} {E0 : XK}
theorem s90 (L : Lw P w K mg base cs tb C) (hr : LRoom A s f c) : Does1 (LX P w K mg base f c A outer s H0 E0) (l9 0) (F1 K tb) (F2 K tb) := by
  refine ⟨_, ps_set (i := 18) sc_law.nd rfl (Or.inl rfl) (pe_call L.wt.G (hr.mono (by decide)) (by rfl) L.wt.m L.wt.k L.wt.b .nil (passX (E := E0) rfl rfl rfl rfl) (pa_cons (pv 2) (pa_cons pe_str (pa_cons (pv 15) (pa_cons (pv 5) (pa_cons (pv 6) pa_nil)))))), fun y D σ H pre post => ?_⟩
  have b := pre.q.b
  have lt := pre.lt
  exact ⟨.ref y.1.x.hs, b.s2, .ref y.1.fu, pre.q.s15, .ref y.1.x.cf, b.s5, iV y.2, pre.s6, go_waiting (w := .tru) pre.q.run (show y.2 ≤ y.1.x.d - 1 by omega) fun v H1 tv1 k1 => post _ _ ⟨(pre.ks k1).set (by decide), v, gn b.len (by decide), tv1⟩⟩
theorem s910 (L : Lw P w K mg base cs tb C) (hr : LRoom A s f c) : Does1 (LX P w K mg base f c A outer s H0 E0) (l91 0) (F3 K tb) (F3 K tb) := by
  have hu := hu_of hr
  refine ⟨_, ps_if (pt_not (pt_val (pe_call (L.al 2).G (hr.mono (by decide)) (by rfl) (L.al 2).m (L.al 2).k (L.al 2).b .nil pass0 (pa_cons (pe_call L.rd.G (hr.mono (by decide)) (by rfl) L.rd.m L.rd.k L.rd.b .nil (passX (E := E0) rfl rfl rfl rfl) (pa_cons (pv 2) (pa_cons pe_str (pa_cons (pv 15) (pa_cons (pv 5) (pa_cons (pv 6) (pa_cons (pv 19) pa_nil)))))))
    (pa_cons (pe_dget2 hu (pv 14) (pe_tup (pa_cons (pv 6) (pa_cons (pv 19) pa_nil))) pe_non ⟨rfl, rfl, rfl, rfl⟩) pa_nil))))) (pss_one (ps_ret pe_bl)) pss_nil, fun y D σ H pre post => ?_⟩
  have b := pre.q.b
  have lt := pre.lt
  refine ⟨.ref y.1.1.x.hs, b.s2, .ref y.1.1.fu, pre.q.s15, .ref y.1.1.x.cf, b.s5, iV y.1.2, pre.s6, iV y.2, pre.s19, go_read (w := .tru) pre.q.run (show y.1.2 ≤ y.1.1.x.d - 1 by omega) pre.lp fun v H1 tv1 k1 => ?_⟩
  have p1 := pre.ks k1
  refine ⟨.ref y.1.1.D, pre.q.s14, y.1.1.D, rfl, p1.q.kn.is, iV y.1.2, pre.s6, iV y.2, pre.s19, by show 2 ≤ sizeLine; decide, fun t nt => ?_⟩
  have et := Ex.new (o := HO.tup [iV y.1.2, iV y.2]) nt
  obtain ⟨o, dg, kv⟩ := (p1.q.kn.ex et).get (b := t) upd_same
  rw [full_known] at tv1
  exact ⟨o, dg, alike_tv (tv1.mv (Kt.ex et)) (knv_opt kv) (opt_depth _) (opt_wide _) fun H3 e3 => ⟨_, rfl, iteF (post _ _ (p1.ks (Ks.ex (et.trans e3))))⟩⟩
theorem s911 (L : Lw P w K mg base cs tb C) (hr : LRoom A s f c) : Does1 (LX P w K mg base f c A outer s H0 E0) (l91 1) (F3 K tb) (fun y σ H => F2 K tb y.1 σ H) := by
  have hu := hu_of hr
  refine ⟨_, ps_if (PW.pt (pw_and (pt_cmpR op_notIn_seq (pv 19) (pv 18) (by rfl)) (pw_and1 (pt_not (pt_val (pe_call (L.al 2).G (hr.mono (by decide)) (by rfl) (L.al 2).m (L.al 2).k (L.al 2).b .nil pass0 (pa_cons (pe_call L.la.G (hr.mono (by decide)) (by rfl) L.la.m L.la.k L.la.b .nil (passX (E := E0) rfl rfl rfl rfl) (pa_cons (pv 2) (pa_cons pe_str (pa_cons (pv 15) (pa_cons (pv 5) (pa_cons (pv 6) (pa_cons (pv 19) pa_nil)))))))
    (pa_cons (pe_dget2 hu (pv 14) (pe_tup (pa_cons (pv 6) (pa_cons (pv 19) pa_nil))) pe_non ⟨rfl, rfl, rfl, rfl⟩) pa_nil)))))))) (pss_one (ps_ret pe_bl)) pss_nil, fun y D σ H pre post => ?_⟩
  have b := pre.q.b
  have lt := pre.lt
  obtain ⟨v, s18, tvw⟩ := pre.wt
  obtain ⟨tw, xs, rfl, htw, all⟩ := tvTup tvw
  obtain rfl := tvIntsEq all
  refine ⟨iV y.2, pre.s19, .ref tw, s18, tw, _, rfl, .inr (SqT.of htw), rfl, flat_nat _, _, rfl, ?_⟩
  show (if (!inV (iV y.2) (((y.1.1.x.full y.1.1.S).1.rows.getD y.1.2 []).map iV)) = true then _ else _)
  rw [inV_nat]
  refine ite2 (fun c1 => ?_) (fun c1 => post _ _ pre.toF2)
  have nin : ¬ y.2 ∈ (y.1.1.x.full y.1.1.S).1.rows.getD y.1.2 [] := by simpa using c1
  refine ⟨.ref y.1.1.x.hs, b.s2, .ref y.1.1.fu, pre.q.s15, .ref y.1.1.x.cf, b.s5, iV y.1.2, pre.s6, iV y.2, pre.s19, go_later (w := .tru) pre.q.run lt pre.lp fun v H1 tv1 k1 => ?_⟩
  have p1 := pre.ks k1
  refine ⟨.ref y.1.1.D, pre.q.s14, y.1.1.D, rfl, p1.q.kn.is, iV y.1.2, pre.s6, iV y.2, pre.s19, by show 2 ≤ sizeLine; decide, fun t nt => ?_⟩
  have et := Ex.new (o := HO.tup [iV y.1.2, iV y.2]) nt
  obtain ⟨o, dg, kv⟩ := (p1.q.kn.ex et).get (b := t) upd_same
  have G : Good y.1.1.x.p (y.1.1.x.d - 1) (y.1.1.x.full y.1.1.S).1 := (pre.q.run.I.rn .tru).good
  have e : knownOf (y.1.1.x.d - 1) (runT y.1.1.x.n .tru y.1.1.x.p y.1.1.x.c (setOf y.1.1.x.n y.1.1.x.k y.1.1.x.cn) [(y.1.1.x.d - 1, y.1.1.S)]).1.cells y.1.2 y.2 = knPuts y.1.1.S y.1.2 y.2 := by
    rw [← full_known (n := y.1.1.x.n) (p := y.1.1.x.p) (c := y.1.1.x.c) (u := y.1.1.x.d - 1) (w := .tru) (sets := setOf y.1.1.x.n y.1.1.x.k y.1.1.x.cn) y.1.1.S]
    exact later_known G (by omega) nin
  rw [e] at tv1
  exact ⟨o, dg, alike_tv (tv1.mv (Kt.ex et)) (knv_opt kv) (opt_depth _) (opt_wide _) fun H3 e3 => ⟨_, rfl, iteF (post _ _ (p1.ks (Ks.ex (et.trans e3))).toF2)⟩⟩
theorem l91_body : forB (l9 1) = [l91 0, l91 1] := rfl
theorem s91 (L : Lw P w K mg base cs tb C) (hr : LRoom A s f c) : Does1 (LX P w K mg base f c A outer s H0 E0) (l9 1) (F2 K tb) (fun y σ H => EsP K tb y.1 σ H) := by
  obtain ⟨tbd, pb, qb⟩ : DoesP (LX P w K mg base f c A outer s H0 E0) (forB (l9 1)) (F3 K tb) (fun y σ H => F2 K tb y.1 σ H) := by
    rw [l91_body]
    exact doesP_cons (s910 L hr) (doesP_one (s911 L hr))
  refine ⟨_, ps_for (passes_of rfl) rfl (pi_range1 (by rfl) L.B.range (pa_cons (pe_ix ix_tup (pv 2) pe_int (fun _ _ => rfl)) pa_nil)) (pg_name (i := 19) sc_law.nd rfl (Or.inl rfl)) pb, fun y D σ H pre post => ?_⟩
  have b := pre.q.b
  have hh := b.R.I.hh
  have p6 := hh.p6
  refine ⟨.ref y.1.x.hs, b.s2, y.1.x.hs, _, _, .int y.1.x.p, rfl, rfl, SqT.of hh.at_, atI_nat (j := 3) rfl, (y.1.x.p : Int), rfl, by omega, by omega, ?_⟩
  refine for_range (lo := 0) (n := y.1.x.p) (fun i σ G => F2 K tb y σ G) pre (fun i σ G hi z => ?_) (fun σ G z => post _ _ z.q)
  rw [Int.zero_add]
  exact qb (y, i) _ _ _ ⟨z.set (by decide), gn z.q.b.len (by decide), hi⟩ fun σ' H' z => z
theorem l9_body : forB (lawSt 9) = [l9 0, l9 1] := rfl
theorem st9 (L : Lw P w K mg base cs tb C) (hr : LRoom A s f c) : Does (LX P w K mg base f c A outer s H0 E0) (lawSt 9) (AtE K tb) (AtF K tb) := by
  obtain ⟨tbd, pb, qb⟩ : DoesP (LX P w K mg base f c A outer s H0 E0) (forB (lawSt 9)) (F1 K tb) (fun y σ H => EsP K tb y.1 σ H) := by
    rw [l9_body]
    exact doesP_cons (s90 L hr) (doesP_one (s91 L hr))
  refine ⟨_, ps_for (passes_of rfl) rfl (pi_range1 (by rfl) L.B.range (pa_cons (pe_ix ix_tup (pv 2) pe_int (fun _ _ => rfl)) pa_nil)) (pg_name (i := 6) sc_law.nd rfl (Or.inl rfl)) pb, fun D σ H pre post => ?_⟩
  obtain ⟨x, S, st, Dk, fu, q, kn⟩ := pre
  have hh := q.b.R.I.hh
  have d4 := hh.d4
  refine ⟨.ref x.hs, q.b.s2, x.hs, _, _, .int x.d, rfl, rfl, SqT.of hh.at_, atI_nat (j := 2) rfl, (x.d : Int), rfl, by omega, by omega, ?_⟩
  refine for_range (lo := 0) (n := x.d) (fun i σ G => EsP K tb ⟨x, S, st, Dk, fu⟩ σ G) ⟨q, kn⟩ (fun i σ G hi z => ?_) (fun σ G z => post _ _ ⟨_, z⟩)
  rw [Int.zero_add]
  exact qb (⟨x, S, st, Dk, fu⟩, i) _ _ _ ⟨z.set (.inl rfl), gn z.b.len (by decide), hi⟩ fun σ' H' z => z
theorem st10 : ∃ t, PSs (LX P w K mg base f c A outer s H0 E0) [lawSt 10] t ∧ ∀ (D : Ends) σ H, AtF K tb σ H → (∀ H', D.rt (.bl true) H') → t D σ H :=
  ⟨_, pss_one (ps_ret pe_bl), fun D σ H _ post => post H⟩
theorem law_body : defBody s_law = [lawSt 0, lawSt 1, lawSt 2, lawSt 3, lawSt 4, lawSt 5, lawSt 6, lawSt 7, lawSt 8, lawSt 9, lawSt 10] := rfl
theorem law_all (L : Lw P w K mg base cs tb C) (hr : LRoom A s f c) : ∃ t, PSs (LX P w K mg base f c A outer s H0 E0) (defBody s_law) t ∧ ∀ (D : Ends) σ H, At0 K tb a ns σ H → (∀ H', D.rt (.bl true) H') → t D σ H := by
  rw [law_body]
  exact does_cons (F := fun D => ∀ H', D.rt (.bl true) H') st0 (does_cons (st1 L hr) (does_cons (st2 L hr) (does_cons (st3 L hr) (does_cons (st4 L hr) (does_cons (st5 L hr) (does_cons (st6 L hr) (does_cons st7 (does_cons (st8 L hr) (does_cons (st9 L hr) st10)))))))))
def spLaw (K : PySem.W.Frag) (ps : List Addr) (tb : Tb) (Pa : Addr) : Sp := fun vs H Q _ => ∃ (a : Addr) (ns : List Int), vs = [.ref a] ∧ SqL K H a (ns.map V.int) ∧ (∀ p ∈ [Pa, tb.m, tb.s, tb.n, tb.o, tb.p, tb.u, tb.a], H p = some (.tbl #[])) ∧ ∀ H', Q (.bl true) H'
theorem tab_empty {H : Hp} {P : Addr} (h : H P = some (.tbl #[])) : GxR.TabG H P := ⟨#[], h, True.intro⟩
theorem ok_law {Pa : Addr} {fd : FuncData} (F : FnP K "law" s_law f fd) (L : Lw P w K mg base cs tb C) (hc : fd.code = .ref c) : FnOk P w K mg base (L2.CX P w) 15 f fd ["script"] (spLaw K [] tb Pa) := by
  obtain ⟨oc, od, dV, kV, doc, pm, an, cdv, ct, osl, rfl, lk, hcd, _, _⟩ := F.ex
  obtain rfl : cdv = .ref c := hc
  refine fn_of (k := 14) lk hcd sc_law (fun vs H Q E h => ?_) (fun A outer s H vs Q E hr h => ?_)
  · obtain ⟨a, ns, rfl, _⟩ := h
    rfl
  · obtain ⟨a, ns, rfl, ha, hP, q⟩ := h
    obtain ⟨t, p, k⟩ := law_all (a := a) (ns := ns) (outer := outer) (H0 := H) (E0 := E) L hr
    refine ⟨t, p, k _ _ _ ⟨rfl, ha, ⟨tab_empty (hP _ (by simp)), tab_empty (hP _ (by simp)), tab_empty (hP _ (by simp)), tab_empty (hP _ (by simp)), tab_empty (hP _ (by simp)), tab_empty (hP _ (by simp)), tab_empty (hP _ (by simp))⟩⟩ q⟩
end
end K04

set_option maxHeartbeats 4000000
namespace K04
open PySem PySem.Spec PyProof.Rows L2 Hd Evl
def dOf (x : Str) (st : Stmt) : He.DefD := ⟨(x, none), x, x, defArgs st, defBody st, defScope st, [], []⟩
def fnL : List He.DefD := ([dOf "is_number" s_is_number, dOf "wrong_word" s_wrong_word, dOf "check_house" s_check_house, dOf "is_drawer" s_is_drawer, dOf "check_drawer" s_check_drawer, dOf "is_page" s_is_page, dOf "check_page" s_check_page, dOf "is_coin" s_is_coin, dOf "drawn" s_drawn, dOf "is_deed" s_is_deed, dOf "is_moment" s_is_moment, dOf "check_story" s_check_story, dOf "is_story" s_is_story, dOf "is_session" s_is_session, dOf "check_life" s_check_life, dOf "moment_count" s_moment_count, dOf "check_coins" s_check_coins, dOf "upper_moment" s_upper_moment, dOf "above" s_above, dOf "upper" s_upper] : List He.DefD) ++ ([dOf "alike_above" s_alike_above, dOf "check_way" s_check_way, dOf "check_run" s_check_run, dOf "check_key" s_check_key, dOf "run" s_run, dOf "read" s_read, dOf "waiting" s_waiting, dOf "places" s_places, dOf "found_later" s_found_later, dOf "check_times" s_check_times, dOf "opened" s_opened, dOf "seen" s_seen, dOf "view" s_view, dOf "looks" s_looks, dOf "check_often" s_check_often, dOf "shown" s_shown, dOf "differs" s_differs, dOf "is_parted" s_is_parted, dOf "_law_taken" s__law_taken, dOf "_law_alike" s__law_alike] : List He.DefD) ++ ([dOf "_law_choices" s__law_choices, dOf "_law_house" s__law_house, dOf "_law_moment" s__law_moment, dOf "_law_life" s__law_life, dOf "_law_length" s__law_length, dOf "_law_coins" s__law_coins, dOf "_law_upper" s__law_upper, dOf "_law_other" s__law_other, dOf "law" s_law, ⟨("BadHouse", some "__init__"), "__init__", "BadHouse.__init__", defArgs s_BadHouse___init__, defBody s_BadHouse___init__, defScope s_BadHouse___init__, [], []⟩, ⟨("BadStory", some "__init__"), "__init__", "BadStory.__init__", defArgs s_BadStory___init__, defBody s_BadStory___init__, defScope s_BadStory___init__, [], []⟩, ⟨("BadLife", some "__init__"), "__init__", "BadLife.__init__", defArgs s_BadLife___init__, defBody s_BadLife___init__, defScope s_BadLife___init__, [], []⟩, ⟨("BadCoins", some "__init__"), "__init__", "BadCoins.__init__", defArgs s_BadCoins___init__, defBody s_BadCoins___init__, defScope s_BadCoins___init__, [], []⟩, ⟨("Store", some "__init__"), "__init__", "Store.__init__", defArgs s_Store___init__, defBody s_Store___init__, defScope s_Store___init__, [], []⟩, ⟨("Store", some "begin"), "begin", "Store.begin", defArgs s_Store_begin, defBody s_Store_begin, defScope s_Store_begin, [], []⟩, ⟨("Store", some "learn"), "learn", "Store.learn", defArgs s_Store_learn, defBody s_Store_learn, defScope s_Store_learn, [], []⟩, ⟨("Store", some "missing"), "missing", "Store.missing", defArgs s_Store_missing, defBody s_Store_missing, defScope s_Store_missing, [], []⟩, ⟨("Store", some "is_live"), "is_live", "Store.is_live", defArgs s_Store_is_live, defBody s_Store_is_live, defScope s_Store_is_live, [], []⟩, ⟨("Store", some "put"), "put", "Store.put", defArgs s_Store_put, defBody s_Store_put, defScope s_Store_put, [], []⟩, ⟨("Store", some "seal"), "seal", "Store.seal", defArgs s_Store_seal, defBody s_Store_seal, defScope s_Store_seal, [], []⟩] : List He.DefD) ++ ([⟨("Store", some "sealed_of"), "sealed_of", "Store.sealed_of", defArgs s_Store_sealed_of, defBody s_Store_sealed_of, defScope s_Store_sealed_of, [], []⟩, ⟨("Store", some "sequence"), "sequence", "Store.sequence", defArgs s_Store_sequence, defBody s_Store_sequence, defScope s_Store_sequence, [], []⟩, ⟨("Store", some "take_again"), "take_again", "Store.take_again", defArgs s_Store_take_again, defBody s_Store_take_again, defScope s_Store_take_again, [], []⟩, ⟨("Store", some "take_bare"), "take_bare", "Store.take_bare", defArgs s_Store_take_bare, defBody s_Store_take_bare, defScope s_Store_take_bare, [], []⟩] : List He.DefD)
def glos : List Str := (["is_number", "wrong_word", "check_house", "is_drawer", "check_drawer", "is_page", "check_page", "is_coin", "drawn", "is_deed", "is_moment", "check_story", "is_story", "is_session", "check_life", "moment_count", "check_coins", "upper_moment", "above", "upper"] : List Str) ++ (["alike_above", "check_way", "check_run", "check_key", "run", "read", "waiting", "places", "found_later", "check_times", "opened", "seen", "view", "looks", "check_often", "shown", "differs", "is_parted", "_law_taken", "_law_alike"] : List Str) ++ (["_law_choices", "_law_house", "_law_moment", "_law_life", "_law_length", "_law_coins", "_law_upper", "_law_other", "law", "BadHouse", "BadStory", "BadLife", "BadCoins", "BadDrawer", "BadPage", "BadTimes", "BadNumber", "Store", "WAYS"] : List Str)
def frees : List Str := (["isinstance", "int", "bool", "str", "tuple", "list", "len", "range", "enumerate", "min", "sum", "all", "sorted", "max", "set"] : List Str)
def nm : Nat → Str
  | _ => "BadStory"
def pairsL : List (Nat × Nat) := [(0, 0)]
def othL : List He.Fa := ([.noat "BadHouse" "word", .meth "BadHouse" "__init__", .noat "BadStory" "index", .meth "BadStory" "__init__", .noat "BadLife" "index", .meth "BadLife" "__init__", .noat "BadCoins" "index", .meth "BadCoins" "__init__", .exc "BadDrawer", .exc "BadPage", .exc "BadTimes", .exc "BadNumber", .cls "Store", .mkr "Store", .noat "Store" "way", .noat "Store" "pages", .noat "Store" "copies", .noat "Store" "cells", .noat "Store" "known", .noat "Store" "rows"] : List He.Fa) ++ ([.meth "Store" "begin", .meth "Store" "learn", .meth "Store" "missing", .meth "Store" "is_live", .meth "Store" "put", .meth "Store" "seal", .meth "Store" "sealed_of", .meth "Store" "sequence", .meth "Store" "take_again", .meth "Store" "take_bare"] : List He.Fa)
def exmL : List He.Fa := pairsL.map fun p => .exm (nm p.1) (nm p.2) (p.1 == p.2)
def faL : List He.Fa := glos.map .glo ++ (frees.map .free ++ (othL ++ exmL))
def tfL : List He.Defn := [("law", none), ("is_moment", none), ("is_session", none), ("moment_count", none), ("Store", some "sealed_of"), ("opened", none), ("upper_moment", none), ("above", none)]
def skB (K : PySem.W.Frag) (P : Addr) : Bool := progTabs.all fun p => !decide (P = (He.cT K p).2)
theorem skB_ok {K : PySem.W.Frag} {P : Addr} (h : skB K P = true) : ¬ Sk K P := fun ⟨p, hp, e⟩ => by
  have := List.all_eq_true.mp h p hp
  rw [decide_eq_true e] at this
  cases this
def exL (K : PySem.W.Frag) : Bool := gIntB K "LEAST_CELLS" 2 && (gIntB K "MOST_CELLS" 12 && (gIntB K "MOST_DEEDS" 6 && (gIntB K "MOST_MOMENTS" 40 && (gIntB K "MOST_SESSIONS" 6 && (gBltB K "comb" "math.comb" && (He.tupB K "WAYS" [.str "true", .str "free", .str "idle", .str "kept", .str "need", .str "lower"] && (ownB K "BadHouse" && (ownB K "BadStory" && (ownB K "BadLife" && (ownB K "BadCoins" && (skB K (He.cT K ("law", none)).2)))))))))))
def askL : Ask := ⟨faL, fnL, tfL, exL, (["is_number", "wrong_word", "check_house", "is_drawer", "check_drawer", "is_page", "check_page", "is_coin", "drawn", "is_deed", "is_moment", "check_story", "is_story", "is_session", "check_life", "moment_count", "check_coins", "upper_moment", "above", "upper"] : List Str) ++ (["alike_above", "check_way", "check_run", "check_key", "run", "read", "waiting", "places", "found_later", "check_times", "opened", "seen", "view", "looks", "check_often", "shown", "differs", "is_parted", "_law_taken", "_law_alike"] : List Str) ++ (["_law_choices", "_law_house", "_law_moment", "_law_life", "_law_length", "_law_coins", "_law_upper", "_law_other", "law", "WAYS"] : List Str), (["BadHouse", "BadStory", "BadLife", "BadCoins", "BadDrawer", "BadPage", "BadTimes", "BadNumber", "Store"] : List Str)⟩
def looseL : List Str := (["DrawerError", "BadHouse", "BadStory", "BadLife", "BadCoins", "BadDrawer", "BadPage", "BadTimes", "BadNumber", "LEAST_CELLS", "MOST_CELLS", "is_number", "wrong_word", "check_house", "is_drawer", "check_drawer", "is_page", "check_page", "is_coin", "drawn"] : List Str) ++ (["MOST_DEEDS", "MOST_MOMENTS", "MOST_SESSIONS", "is_deed", "is_moment", "check_story", "is_story", "is_session", "check_life", "moment_count", "check_coins", "upper_moment", "above", "upper", "alike_above", "WAYS", "check_way", "Store", "check_run", "check_key"] : List Str) ++ (["run", "read", "waiting", "places", "found_later", "check_times", "opened", "seen", "view", "looks", "check_often", "shown", "differs", "is_parted", "_law_taken", "_law_pick", "_law_alike", "_law_choices", "_law_sets", "_law_house"] : List Str) ++ (["_law_moment", "_law_life", "_law_length", "_law_coins", "_law_upper", "_law_other"] : List Str)
theorem ok_BadStory_init {CX : CXT} {P : Program} {w : World} {K : PySem.W.Frag} {mg : Str → Option Value} {base : Heap} {CB : Addr} {f : Addr} {fd : FuncData} (F : FunD K "__init__" "BadStory.__init__" (defArgs s_BadStory___init__) (defBody s_BadStory___init__) (defScope s_BadStory___init__) [] [] f fd) (T : OexC K CB) (no : PySem.W.findIn K (.ref CB) "index" = some none) :
    FnOk P w K mg base CX 1 f fd ["self", "index"] (Hd.spInit CB "index") := by
  refine F.ok (CX := CX) sc_BadStory___init__ (fun vs H Q E h => ?_) (fun cdv A outer s H vs Q E hr h => ?_)
  · obtain ⟨a, x, rfl, _⟩ := h
    rfl
  · obtain ⟨a, x, rfl, ha, q⟩ := h
    exact ⟨_, pss_one (ps_ost (pv 0) (pv 1)), x, rfl, .ref a, rfl, a, CB, rfl, T, no, .inl ⟨ha, fun dx n1 n2 => q dx n1 n2⟩⟩
theorem ok_BadLife_init {CX : CXT} {P : Program} {w : World} {K : PySem.W.Frag} {mg : Str → Option Value} {base : Heap} {CB : Addr} {f : Addr} {fd : FuncData} (F : FunD K "__init__" "BadLife.__init__" (defArgs s_BadLife___init__) (defBody s_BadLife___init__) (defScope s_BadLife___init__) [] [] f fd) (T : OexC K CB) (no : PySem.W.findIn K (.ref CB) "index" = some none) :
    FnOk P w K mg base CX 1 f fd ["self", "index"] (Hd.spInit CB "index") := by
  refine F.ok (CX := CX) sc_BadLife___init__ (fun vs H Q E h => ?_) (fun cdv A outer s H vs Q E hr h => ?_)
  · obtain ⟨a, x, rfl, _⟩ := h
    rfl
  · obtain ⟨a, x, rfl, ha, q⟩ := h
    exact ⟨_, pss_one (ps_ost (pv 0) (pv 1)), x, rfl, .ref a, rfl, a, CB, rfl, T, no, .inl ⟨ha, fun dx n1 n2 => q dx n1 n2⟩⟩
theorem ok_BadCoins_init {CX : CXT} {P : Program} {w : World} {K : PySem.W.Frag} {mg : Str → Option Value} {base : Heap} {CB : Addr} {f : Addr} {fd : FuncData} (F : FunD K "__init__" "BadCoins.__init__" (defArgs s_BadCoins___init__) (defBody s_BadCoins___init__) (defScope s_BadCoins___init__) [] [] f fd) (T : OexC K CB) (no : PySem.W.findIn K (.ref CB) "index" = some none) :
    FnOk P w K mg base CX 1 f fd ["self", "index"] (Hd.spInit CB "index") := by
  refine F.ok (CX := CX) sc_BadCoins___init__ (fun vs H Q E h => ?_) (fun cdv A outer s H vs Q E hr h => ?_)
  · obtain ⟨a, x, rfl, _⟩ := h
    rfl
  · obtain ⟨a, x, rfl, ha, q⟩ := h
    exact ⟨_, pss_one (ps_ost (pv 0) (pv 1)), x, rfl, .ref a, rfl, a, CB, rfl, T, no, .inl ⟨ha, fun dx n1 n2 => q dx n1 n2⟩⟩
abbrev PP : Program := PySem.Challenge.rw_hushdrawers_k04_whole_hushed.prog
section
variable {w : World} {K : PySem.W.Frag} {mg : Str → Option Value} {base h : Heap}
theorem facts {f : Addr} (X : K.In h) (G : h.Ns mainGlobals mg) (hfa : mg ("law" : Str) = some (.ref f)) (c : He.SaysX faL fnL [] tfL exL w h K) : LamX.LawAtS PySem.Challenge.rw_hushdrawers_k04_whole_hushed w K (L2.CX PP w) 15 63 "script" mg f h := by
  have cd : He.SaysD faL fnL K := c.t.d
  have glo : ∀ i x, glos[i]? = some x → mg x = some (.ref (He.ga K x)) := fun i x hx => He.glo_ok X G (cd.facts (f := .glo x) (List.mem_append_left _ (List.mem_map_of_mem (List.mem_of_getElem? hx))))
  have fre : ∀ i x, frees[i]? = some x → mg x = none := fun i x hx => He.free_ok X G (cd.facts (f := .free x) (List.mem_append_right _ (List.mem_append_left _ (List.mem_map_of_mem (List.mem_of_getElem? hx)))))
  have oth : ∀ i (q : He.Fa), othL[i]? = some q → q.ok K = true := fun i q hq => cd.facts (List.mem_append_right _ (List.mem_append_right _ (List.mem_append_left _ (List.mem_of_getElem? hq))))
  have exm : ∀ p, p ∈ pairsL → PySem.W.exmOne K (.ref (He.ga K (nm p.1))) (.ref (He.ga K (nm p.2))) = some (p.1 == p.2) := fun p hp => He.exm_ok (cd.facts (f := .exm (nm p.1) (nm p.2) (p.1 == p.2)) (List.mem_append_right _ (List.mem_append_right _ (List.mem_append_right _ (List.mem_map_of_mem (f := fun p : Nat × Nat => He.Fa.exm (nm p.1) (nm p.2) (p.1 == p.2)) hp)))))
  have ex := c.more
  unfold exL at ex
  simp only [Bool.and_eq_true] at ex
  obtain ⟨x_LEAST_CELLS, x_MOST_CELLS, x_MOST_DEEDS, x_MOST_MOMENTS, x_MOST_SESSIONS, x_comb, x_WAYS, x_BadHouse, x_BadStory, x_BadLife, x_BadCoins, x_na⟩ := ex
  obtain ⟨tk_LEAST_CELLS, i_LEAST_CELLS⟩ := gIntB_ok X G x_LEAST_CELLS
  obtain ⟨tk_MOST_CELLS, i_MOST_CELLS⟩ := gIntB_ok X G x_MOST_CELLS
  obtain ⟨tk_MOST_DEEDS, i_MOST_DEEDS⟩ := gIntB_ok X G x_MOST_DEEDS
  obtain ⟨tk_MOST_MOMENTS, i_MOST_MOMENTS⟩ := gIntB_ok X G x_MOST_MOMENTS
  obtain ⟨tk_MOST_SESSIONS, i_MOST_SESSIONS⟩ := gIntB_ok X G x_MOST_SESSIONS
  have B : Blt mg := ⟨fre 0 _ rfl, fre 1 _ rfl, fre 2 _ rfl, fre 3 _ rfl, fre 4 _ rfl, fre 5 _ rfl, fre 6 _ rfl, fre 7 _ rfl, fre 8 _ rfl, fre 9 _ rfl, fre 10 _ rfl, gBltB_ok X G x_comb, ⟨tk_LEAST_CELLS, i_LEAST_CELLS⟩, ⟨tk_MOST_CELLS, i_MOST_CELLS⟩⟩
  have h_all : mg "all" = none := fre 11 _ rfl
  have h_sorted : mg "sorted" = none := fre 12 _ rfl
  have h_max : mg "max" = none := fre 13 _ rfl
  have h_set : mg "set" = none := fre 14 _ rfl
  obtain ⟨fd_is_number, F0_is_number⟩ := cd.def_ 0 (d := dOf "is_number" s_is_number) rfl
  have F_is_number : FnP K "is_number" s_is_number (He.ga K "is_number") fd_is_number := F0_is_number
  have m_is_number := glo 0 "is_number" rfl
  have b_is_number : Binds K fd_is_number ["value", "least", "most"] [] := FunD.bindsN F0_is_number (fun _ _ _ _ _ _ us hl => match us, hl with | [_, _, _], _ => rfl)
  obtain ⟨fd_wrong_word, F0_wrong_word⟩ := cd.def_ 1 (d := dOf "wrong_word" s_wrong_word) rfl
  have F_wrong_word : FnP K "wrong_word" s_wrong_word (He.ga K "wrong_word") fd_wrong_word := F0_wrong_word
  have m_wrong_word := glo 1 "wrong_word" rfl
  have b_wrong_word : Binds K fd_wrong_word ["value"] [] := FunD.bindsN F0_wrong_word (fun _ _ _ _ _ _ us hl => match us, hl with | [_], _ => rfl)
  obtain ⟨fd_check_house, F0_check_house⟩ := cd.def_ 2 (d := dOf "check_house" s_check_house) rfl
  have F_check_house : FnP K "check_house" s_check_house (He.ga K "check_house") fd_check_house := F0_check_house
  have m_check_house := glo 2 "check_house" rfl
  have b_check_house : Binds K fd_check_house ["house"] [] := FunD.bindsN F0_check_house (fun _ _ _ _ _ _ us hl => match us, hl with | [_], _ => rfl)
  obtain ⟨fd_is_drawer, F0_is_drawer⟩ := cd.def_ 3 (d := dOf "is_drawer" s_is_drawer) rfl
  have F_is_drawer : FnP K "is_drawer" s_is_drawer (He.ga K "is_drawer") fd_is_drawer := F0_is_drawer
  have m_is_drawer := glo 3 "is_drawer" rfl
  have b_is_drawer : Binds K fd_is_drawer ["house", "value"] [] := FunD.bindsN F0_is_drawer (fun _ _ _ _ _ _ us hl => match us, hl with | [_, _], _ => rfl)
  obtain ⟨fd_check_drawer, F0_check_drawer⟩ := cd.def_ 4 (d := dOf "check_drawer" s_check_drawer) rfl
  have F_check_drawer : FnP K "check_drawer" s_check_drawer (He.ga K "check_drawer") fd_check_drawer := F0_check_drawer
  have m_check_drawer := glo 4 "check_drawer" rfl
  have b_check_drawer : Binds K fd_check_drawer ["house", "drawer"] [] := FunD.bindsN F0_check_drawer (fun _ _ _ _ _ _ us hl => match us, hl with | [_, _], _ => rfl)
  obtain ⟨fd_is_page, F0_is_page⟩ := cd.def_ 5 (d := dOf "is_page" s_is_page) rfl
  have F_is_page : FnP K "is_page" s_is_page (He.ga K "is_page") fd_is_page := F0_is_page
  have m_is_page := glo 5 "is_page" rfl
  have b_is_page : Binds K fd_is_page ["house", "value"] [] := FunD.bindsN F0_is_page (fun _ _ _ _ _ _ us hl => match us, hl with | [_, _], _ => rfl)
  obtain ⟨fd_check_page, F0_check_page⟩ := cd.def_ 6 (d := dOf "check_page" s_check_page) rfl
  have F_check_page : FnP K "check_page" s_check_page (He.ga K "check_page") fd_check_page := F0_check_page
  have m_check_page := glo 6 "check_page" rfl
  have b_check_page : Binds K fd_check_page ["house", "page"] [] := FunD.bindsN F0_check_page (fun _ _ _ _ _ _ us hl => match us, hl with | [_, _], _ => rfl)
  obtain ⟨fd_is_coin, F0_is_coin⟩ := cd.def_ 7 (d := dOf "is_coin" s_is_coin) rfl
  have F_is_coin : FnP K "is_coin" s_is_coin (He.ga K "is_coin") fd_is_coin := F0_is_coin
  have m_is_coin := glo 7 "is_coin" rfl
  have b_is_coin : Binds K fd_is_coin ["house", "value"] [] := FunD.bindsN F0_is_coin (fun _ _ _ _ _ _ us hl => match us, hl with | [_, _], _ => rfl)
  obtain ⟨fd_drawn, F0_drawn⟩ := cd.def_ 8 (d := dOf "drawn" s_drawn) rfl
  have F_drawn : FnP K "drawn" s_drawn (He.ga K "drawn") fd_drawn := F0_drawn
  have m_drawn := glo 8 "drawn" rfl
  have b_drawn : Binds K fd_drawn ["house", "coin"] [] := FunD.bindsN F0_drawn (fun _ _ _ _ _ _ us hl => match us, hl with | [_, _], _ => rfl)
  obtain ⟨fd_is_deed, F0_is_deed⟩ := cd.def_ 9 (d := dOf "is_deed" s_is_deed) rfl
  have F_is_deed : FnP K "is_deed" s_is_deed (He.ga K "is_deed") fd_is_deed := F0_is_deed
  have m_is_deed := glo 9 "is_deed" rfl
  have b_is_deed : Binds K fd_is_deed ["house", "value"] [] := FunD.bindsN F0_is_deed (fun _ _ _ _ _ _ us hl => match us, hl with | [_, _], _ => rfl)
  obtain ⟨fd_is_moment, F0_is_moment⟩ := cd.def_ 10 (d := dOf "is_moment" s_is_moment) rfl
  have F_is_moment : FnP K "is_moment" s_is_moment (He.ga K "is_moment") fd_is_moment := F0_is_moment
  have m_is_moment := glo 10 "is_moment" rfl
  have b_is_moment : Binds K fd_is_moment ["house", "value"] [] := FunD.bindsN F0_is_moment (fun _ _ _ _ _ _ us hl => match us, hl with | [_, _], _ => rfl)
  obtain ⟨fd_check_story, F0_check_story⟩ := cd.def_ 11 (d := dOf "check_story" s_check_story) rfl
  have F_check_story : FnP K "check_story" s_check_story (He.ga K "check_story") fd_check_story := F0_check_story
  have m_check_story := glo 11 "check_story" rfl
  have b_check_story : Binds K fd_check_story ["house", "story"] [] := FunD.bindsN F0_check_story (fun _ _ _ _ _ _ us hl => match us, hl with | [_, _], _ => rfl)
  obtain ⟨fd_is_story, F0_is_story⟩ := cd.def_ 12 (d := dOf "is_story" s_is_story) rfl
  have F_is_story : FnP K "is_story" s_is_story (He.ga K "is_story") fd_is_story := F0_is_story
  have m_is_story := glo 12 "is_story" rfl
  have b_is_story : Binds K fd_is_story ["house", "value"] [] := FunD.bindsN F0_is_story (fun _ _ _ _ _ _ us hl => match us, hl with | [_, _], _ => rfl)
  obtain ⟨fd_is_session, F0_is_session⟩ := cd.def_ 13 (d := dOf "is_session" s_is_session) rfl
  have F_is_session : FnP K "is_session" s_is_session (He.ga K "is_session") fd_is_session := F0_is_session
  have m_is_session := glo 13 "is_session" rfl
  have b_is_session : Binds K fd_is_session ["house", "value"] [] := FunD.bindsN F0_is_session (fun _ _ _ _ _ _ us hl => match us, hl with | [_, _], _ => rfl)
  obtain ⟨fd_check_life, F0_check_life⟩ := cd.def_ 14 (d := dOf "check_life" s_check_life) rfl
  have F_check_life : FnP K "check_life" s_check_life (He.ga K "check_life") fd_check_life := F0_check_life
  have m_check_life := glo 14 "check_life" rfl
  have b_check_life : Binds K fd_check_life ["house", "life"] [] := FunD.bindsN F0_check_life (fun _ _ _ _ _ _ us hl => match us, hl with | [_, _], _ => rfl)
  obtain ⟨fd_moment_count, F0_moment_count⟩ := cd.def_ 15 (d := dOf "moment_count" s_moment_count) rfl
  have F_moment_count : FnP K "moment_count" s_moment_count (He.ga K "moment_count") fd_moment_count := F0_moment_count
  have m_moment_count := glo 15 "moment_count" rfl
  have b_moment_count : Binds K fd_moment_count ["life"] [] := FunD.bindsN F0_moment_count (fun _ _ _ _ _ _ us hl => match us, hl with | [_], _ => rfl)
  obtain ⟨fd_check_coins, F0_check_coins⟩ := cd.def_ 16 (d := dOf "check_coins" s_check_coins) rfl
  have F_check_coins : FnP K "check_coins" s_check_coins (He.ga K "check_coins") fd_check_coins := F0_check_coins
  have m_check_coins := glo 16 "check_coins" rfl
  have b_check_coins : Binds K fd_check_coins ["house", "life", "coins"] [] := FunD.bindsN F0_check_coins (fun _ _ _ _ _ _ us hl => match us, hl with | [_, _, _], _ => rfl)
  obtain ⟨fd_upper_moment, F0_upper_moment⟩ := cd.def_ 17 (d := dOf "upper_moment" s_upper_moment) rfl
  have F_upper_moment : FnP K "upper_moment" s_upper_moment (He.ga K "upper_moment") fd_upper_moment := F0_upper_moment
  have m_upper_moment := glo 17 "upper_moment" rfl
  have b_upper_moment : Binds K fd_upper_moment ["moment", "drawer"] [] := FunD.bindsN F0_upper_moment (fun _ _ _ _ _ _ us hl => match us, hl with | [_, _], _ => rfl)
  obtain ⟨fd_above, F0_above⟩ := cd.def_ 18 (d := dOf "above" s_above) rfl
  have F_above : FnP K "above" s_above (He.ga K "above") fd_above := F0_above
  have m_above := glo 18 "above" rfl
  have b_above : Binds K fd_above ["life", "drawer"] [] := FunD.bindsN F0_above (fun _ _ _ _ _ _ us hl => match us, hl with | [_, _], _ => rfl)
  obtain ⟨fd_upper, F0_upper⟩ := cd.def_ 19 (d := dOf "upper" s_upper) rfl
  have F_upper : FnP K "upper" s_upper (He.ga K "upper") fd_upper := F0_upper
  have m_upper := glo 19 "upper" rfl
  have b_upper : Binds K fd_upper ["house", "life", "drawer"] [] := FunD.bindsN F0_upper (fun _ _ _ _ _ _ us hl => match us, hl with | [_, _, _], _ => rfl)
  obtain ⟨fd_alike_above, F0_alike_above⟩ := cd.def_ 20 (d := dOf "alike_above" s_alike_above) rfl
  have F_alike_above : FnP K "alike_above" s_alike_above (He.ga K "alike_above") fd_alike_above := F0_alike_above
  have m_alike_above := glo 20 "alike_above" rfl
  have b_alike_above : Binds K fd_alike_above ["house", "one", "other", "drawer"] [] := FunD.bindsN F0_alike_above (fun _ _ _ _ _ _ us hl => match us, hl with | [_, _, _, _], _ => rfl)
  obtain ⟨fd_check_way, F0_check_way⟩ := cd.def_ 21 (d := dOf "check_way" s_check_way) rfl
  have F_check_way : FnP K "check_way" s_check_way (He.ga K "check_way") fd_check_way := F0_check_way
  have m_check_way := glo 21 "check_way" rfl
  have b_check_way : Binds K fd_check_way ["way"] [] := FunD.bindsN F0_check_way (fun _ _ _ _ _ _ us hl => match us, hl with | [_], _ => rfl)
  obtain ⟨fd_check_run, F0_check_run⟩ := cd.def_ 22 (d := dOf "check_run" s_check_run) rfl
  have F_check_run : FnP K "check_run" s_check_run (He.ga K "check_run") fd_check_run := F0_check_run
  have m_check_run := glo 22 "check_run" rfl
  have b_check_run : Binds K fd_check_run ["house", "way", "life", "coins"] [] := FunD.bindsN F0_check_run (fun _ _ _ _ _ _ us hl => match us, hl with | [_, _, _, _], _ => rfl)
  obtain ⟨fd_check_key, F0_check_key⟩ := cd.def_ 23 (d := dOf "check_key" s_check_key) rfl
  have F_check_key : FnP K "check_key" s_check_key (He.ga K "check_key") fd_check_key := F0_check_key
  have m_check_key := glo 23 "check_key" rfl
  have b_check_key : Binds K fd_check_key ["house", "life", "drawer"] [] := FunD.bindsN F0_check_key (fun _ _ _ _ _ _ us hl => match us, hl with | [_, _, _], _ => rfl)
  obtain ⟨fd_run, F0_run⟩ := cd.def_ 24 (d := dOf "run" s_run) rfl
  have F_run : FnP K "run" s_run (He.ga K "run") fd_run := F0_run
  have m_run := glo 24 "run" rfl
  have b_run : Binds K fd_run ["house", "way", "life", "coins"] [] := FunD.bindsN F0_run (fun _ _ _ _ _ _ us hl => match us, hl with | [_, _, _, _], _ => rfl)
  obtain ⟨fd_read, F0_read⟩ := cd.def_ 25 (d := dOf "read" s_read) rfl
  have F_read : FnP K "read" s_read (He.ga K "read") fd_read := F0_read
  have m_read := glo 25 "read" rfl
  have b_read : Binds K fd_read ["house", "way", "life", "coins", "drawer", "page"] [] := FunD.bindsN F0_read (fun _ _ _ _ _ _ us hl => match us, hl with | [_, _, _, _, _, _], _ => rfl)
  obtain ⟨fd_waiting, F0_waiting⟩ := cd.def_ 26 (d := dOf "waiting" s_waiting) rfl
  have F_waiting : FnP K "waiting" s_waiting (He.ga K "waiting") fd_waiting := F0_waiting
  have m_waiting := glo 26 "waiting" rfl
  have b_waiting : Binds K fd_waiting ["house", "way", "life", "coins", "drawer"] [] := FunD.bindsN F0_waiting (fun _ _ _ _ _ _ us hl => match us, hl with | [_, _, _, _, _], _ => rfl)
  obtain ⟨fd_places, F0_places⟩ := cd.def_ 27 (d := dOf "places" s_places) rfl
  have F_places : FnP K "places" s_places (He.ga K "places") fd_places := F0_places
  have m_places := glo 27 "places" rfl
  have b_places : Binds K fd_places ["house", "way", "life", "coins", "drawer"] [] := FunD.bindsN F0_places (fun _ _ _ _ _ _ us hl => match us, hl with | [_, _, _, _, _], _ => rfl)
  obtain ⟨fd_found_later, F0_found_later⟩ := cd.def_ 28 (d := dOf "found_later" s_found_later) rfl
  have F_found_later : FnP K "found_later" s_found_later (He.ga K "found_later") fd_found_later := F0_found_later
  have m_found_later := glo 28 "found_later" rfl
  have b_found_later : Binds K fd_found_later ["house", "way", "life", "coins", "drawer", "page"] [] := FunD.bindsN F0_found_later (fun _ _ _ _ _ _ us hl => match us, hl with | [_, _, _, _, _, _], _ => rfl)
  obtain ⟨fd_check_times, F0_check_times⟩ := cd.def_ 29 (d := dOf "check_times" s_check_times) rfl
  have F_check_times : FnP K "check_times" s_check_times (He.ga K "check_times") fd_check_times := F0_check_times
  have m_check_times := glo 29 "check_times" rfl
  have b_check_times : Binds K fd_check_times ["life", "times"] [] := FunD.bindsN F0_check_times (fun _ _ _ _ _ _ us hl => match us, hl with | [_, _], _ => rfl)
  obtain ⟨fd_opened, F0_opened⟩ := cd.def_ 30 (d := dOf "opened" s_opened) rfl
  have F_opened : FnP K "opened" s_opened (He.ga K "opened") fd_opened := F0_opened
  have m_opened := glo 30 "opened" rfl
  have b_opened : Binds K fd_opened ["cells", "drawer"] [] := FunD.bindsN F0_opened (fun _ _ _ _ _ _ us hl => match us, hl with | [_, _], _ => rfl)
  obtain ⟨fd_seen, F0_seen⟩ := cd.def_ 31 (d := dOf "seen" s_seen) rfl
  have F_seen : FnP K "seen" s_seen (He.ga K "seen") fd_seen := F0_seen
  have m_seen := glo 31 "seen" rfl
  have b_seen : Binds K fd_seen ["history", "drawer", "times"] [] := FunD.bindsN F0_seen (fun _ _ _ _ _ _ us hl => match us, hl with | [_, _, _], _ => rfl)
  obtain ⟨fd_view, F0_view⟩ := cd.def_ 32 (d := dOf "view" s_view) rfl
  have F_view : FnP K "view" s_view (He.ga K "view") fd_view := F0_view
  have m_view := glo 32 "view" rfl
  have b_view : Binds K fd_view ["house", "way", "life", "coins", "drawer", "times"] [] := FunD.bindsN F0_view (fun _ _ _ _ _ _ us hl => match us, hl with | [_, _, _, _, _, _], _ => rfl)
  obtain ⟨fd_looks, F0_looks⟩ := cd.def_ 33 (d := dOf "looks" s_looks) rfl
  have F_looks : FnP K "looks" s_looks (He.ga K "looks") fd_looks := F0_looks
  have m_looks := glo 33 "looks" rfl
  have b_looks : Binds K fd_looks ["house", "way", "life", "coins", "drawer"] [] := FunD.bindsN F0_looks (fun _ _ _ _ _ _ us hl => match us, hl with | [_, _, _, _, _], _ => rfl)
  obtain ⟨fd_check_often, F0_check_often⟩ := cd.def_ 34 (d := dOf "check_often" s_check_often) rfl
  have F_check_often : FnP K "check_often" s_check_often (He.ga K "check_often") fd_check_often := F0_check_often
  have m_check_often := glo 34 "check_often" rfl
  have b_check_often : Binds K fd_check_often ["is_often"] [] := FunD.bindsN F0_check_often (fun _ _ _ _ _ _ us hl => match us, hl with | [_], _ => rfl)
  obtain ⟨fd_shown, F0_shown⟩ := cd.def_ 35 (d := dOf "shown" s_shown) rfl
  have F_shown : FnP K "shown" s_shown (He.ga K "shown") fd_shown := F0_shown
  have m_shown := glo 35 "shown" rfl
  have b_shown : Binds K fd_shown ["house", "way", "life", "coins", "drawer", "is_often"] [] := FunD.bindsN F0_shown (fun _ _ _ _ _ _ us hl => match us, hl with | [_, _, _, _, _, _], _ => rfl)
  obtain ⟨fd_differs, F0_differs⟩ := cd.def_ 36 (d := dOf "differs" s_differs) rfl
  have F_differs : FnP K "differs" s_differs (He.ga K "differs") fd_differs := F0_differs
  have m_differs := glo 36 "differs" rfl
  have b_differs : Binds K fd_differs ["house", "way", "life", "coins", "drawer", "is_often"] [] := FunD.bindsN F0_differs (fun _ _ _ _ _ _ us hl => match us, hl with | [_, _, _, _, _, _], _ => rfl)
  obtain ⟨fd_is_parted, F0_is_parted⟩ := cd.def_ 37 (d := dOf "is_parted" s_is_parted) rfl
  have F_is_parted : FnP K "is_parted" s_is_parted (He.ga K "is_parted") fd_is_parted := F0_is_parted
  have m_is_parted := glo 37 "is_parted" rfl
  have b_is_parted : Binds K fd_is_parted ["house", "way", "life", "coins", "drawer", "is_often"] [] := FunD.bindsN F0_is_parted (fun _ _ _ _ _ _ us hl => match us, hl with | [_, _, _, _, _, _], _ => rfl)
  obtain ⟨fd__law_taken, F0__law_taken⟩ := cd.def_ 38 (d := dOf "_law_taken" s__law_taken) rfl
  have F__law_taken : FnP K "_law_taken" s__law_taken (He.ga K "_law_taken") fd__law_taken := F0__law_taken
  have m__law_taken := glo 38 "_law_taken" rfl
  have b__law_taken : Binds K fd__law_taken ["row", "many"] [] := FunD.bindsN F0__law_taken (fun _ _ _ _ _ _ us hl => match us, hl with | [_, _], _ => rfl)
  obtain ⟨fd__law_alike, F0__law_alike⟩ := cd.def_ 39 (d := dOf "_law_alike" s__law_alike) rfl
  have F__law_alike : FnP K "_law_alike" s__law_alike (He.ga K "_law_alike") fd__law_alike := F0__law_alike
  have m__law_alike := glo 39 "_law_alike" rfl
  have b__law_alike : Binds K fd__law_alike ["found", "due"] [] := FunD.bindsN F0__law_alike (fun _ _ _ _ _ _ us hl => match us, hl with | [_, _], _ => rfl)
  obtain ⟨fd__law_choices, F0__law_choices⟩ := cd.def_ 40 (d := dOf "_law_choices" s__law_choices) rfl
  have F__law_choices : FnP K "_law_choices" s__law_choices (He.ga K "_law_choices") fd__law_choices := F0__law_choices
  have m__law_choices := glo 40 "_law_choices" rfl
  have b__law_choices : Binds K fd__law_choices ["many", "some"] [] := FunD.bindsN F0__law_choices (fun _ _ _ _ _ _ us hl => match us, hl with | [_, _], _ => rfl)
  obtain ⟨fd__law_house, F0__law_house⟩ := cd.def_ 41 (d := dOf "_law_house" s__law_house) rfl
  have F__law_house : FnP K "_law_house" s__law_house (He.ga K "_law_house") fd__law_house := F0__law_house
  have m__law_house := glo 41 "_law_house" rfl
  have b__law_house : Binds K fd__law_house ["row", "most"] [] := FunD.bindsN F0__law_house (fun _ _ _ _ _ _ us hl => match us, hl with | [_, _], _ => rfl)
  obtain ⟨fd__law_moment, F0__law_moment⟩ := cd.def_ 42 (d := dOf "_law_moment" s__law_moment) rfl
  have F__law_moment : FnP K "_law_moment" s__law_moment (He.ga K "_law_moment") fd__law_moment := F0__law_moment
  have m__law_moment := glo 42 "_law_moment" rfl
  have b__law_moment : Binds K fd__law_moment ["row", "house", "deepest", "most"] [] := FunD.bindsN F0__law_moment (fun _ _ _ _ _ _ us hl => match us, hl with | [_, _, _, _], _ => rfl)
  obtain ⟨fd__law_life, F0__law_life⟩ := cd.def_ 43 (d := dOf "_law_life" s__law_life) rfl
  have F__law_life : FnP K "_law_life" s__law_life (He.ga K "_law_life") fd__law_life := F0__law_life
  have m__law_life := glo 43 "_law_life" rfl
  have b__law_life : Binds K fd__law_life ["row", "house", "moments"] [] := FunD.bindsN F0__law_life (fun _ _ _ _ _ _ us hl => match us, hl with | [_, _, _], _ => rfl)
  obtain ⟨fd__law_length, F0__law_length⟩ := cd.def_ 44 (d := dOf "_law_length" s__law_length) rfl
  have F__law_length : FnP K "_law_length" s__law_length (He.ga K "_law_length") fd__law_length := F0__law_length
  have m__law_length := glo 44 "_law_length" rfl
  have b__law_length : Binds K fd__law_length ["life"] [] := FunD.bindsN F0__law_length (fun _ _ _ _ _ _ us hl => match us, hl with | [_], _ => rfl)
  obtain ⟨fd__law_coins, F0__law_coins⟩ := cd.def_ 45 (d := dOf "_law_coins" s__law_coins) rfl
  have F__law_coins : FnP K "_law_coins" s__law_coins (He.ga K "_law_coins") fd__law_coins := F0__law_coins
  have m__law_coins := glo 45 "_law_coins" rfl
  have b__law_coins : Binds K fd__law_coins ["row", "house", "many"] [] := FunD.bindsN F0__law_coins (fun _ _ _ _ _ _ us hl => match us, hl with | [_, _, _], _ => rfl)
  obtain ⟨fd__law_upper, F0__law_upper⟩ := cd.def_ 46 (d := dOf "_law_upper" s__law_upper) rfl
  have F__law_upper : FnP K "_law_upper" s__law_upper (He.ga K "_law_upper") fd__law_upper := F0__law_upper
  have m__law_upper := glo 46 "_law_upper" rfl
  have b__law_upper : Binds K fd__law_upper ["life", "drawer"] [] := FunD.bindsN F0__law_upper (fun _ _ _ _ _ _ us hl => match us, hl with | [_, _], _ => rfl)
  obtain ⟨fd__law_other, F0__law_other⟩ := cd.def_ 47 (d := dOf "_law_other" s__law_other) rfl
  have F__law_other : FnP K "_law_other" s__law_other (He.ga K "_law_other") fd__law_other := F0__law_other
  have m__law_other := glo 47 "_law_other" rfl
  have b__law_other : Binds K fd__law_other ["row", "house", "life", "drawer"] [] := FunD.bindsN F0__law_other (fun _ _ _ _ _ _ us hl => match us, hl with | [_, _, _, _], _ => rfl)
  obtain ⟨fd_law, F0_law⟩ := cd.def_ 48 (d := dOf "law" s_law) rfl
  have F_law : FnP K "law" s_law (He.ga K "law") fd_law := F0_law
  have m_law := glo 48 "law" rfl
  have b_law : Binds K fd_law ["script"] [] := FunD.bindsN F0_law (fun _ _ _ _ _ _ us hl => match us, hl with | [_], _ => rfl)
  obtain ⟨fd_BadHouse___init__, F0_BadHouse___init__⟩ := cd.def_ 49 (d := ⟨("BadHouse", some "__init__"), "__init__", "BadHouse.__init__", defArgs s_BadHouse___init__, defBody s_BadHouse___init__, defScope s_BadHouse___init__, [], []⟩) rfl
  have b_BadHouse___init__ : Binds K fd_BadHouse___init__ ["self", "word"] [] := FunD.bindsN F0_BadHouse___init__ (fun _ _ _ _ _ _ us hl => match us, hl with | [_, _], _ => rfl)
  obtain ⟨fd_BadStory___init__, F0_BadStory___init__⟩ := cd.def_ 50 (d := ⟨("BadStory", some "__init__"), "__init__", "BadStory.__init__", defArgs s_BadStory___init__, defBody s_BadStory___init__, defScope s_BadStory___init__, [], []⟩) rfl
  have b_BadStory___init__ : Binds K fd_BadStory___init__ ["self", "index"] [] := FunD.bindsN F0_BadStory___init__ (fun _ _ _ _ _ _ us hl => match us, hl with | [_, _], _ => rfl)
  obtain ⟨fd_BadLife___init__, F0_BadLife___init__⟩ := cd.def_ 51 (d := ⟨("BadLife", some "__init__"), "__init__", "BadLife.__init__", defArgs s_BadLife___init__, defBody s_BadLife___init__, defScope s_BadLife___init__, [], []⟩) rfl
  have b_BadLife___init__ : Binds K fd_BadLife___init__ ["self", "index"] [] := FunD.bindsN F0_BadLife___init__ (fun _ _ _ _ _ _ us hl => match us, hl with | [_, _], _ => rfl)
  obtain ⟨fd_BadCoins___init__, F0_BadCoins___init__⟩ := cd.def_ 52 (d := ⟨("BadCoins", some "__init__"), "__init__", "BadCoins.__init__", defArgs s_BadCoins___init__, defBody s_BadCoins___init__, defScope s_BadCoins___init__, [], []⟩) rfl
  have b_BadCoins___init__ : Binds K fd_BadCoins___init__ ["self", "index"] [] := FunD.bindsN F0_BadCoins___init__ (fun _ _ _ _ _ _ us hl => match us, hl with | [_, _], _ => rfl)
  obtain ⟨fd_Store___init__, F0_Store___init__⟩ := cd.def_ 53 (d := ⟨("Store", some "__init__"), "__init__", "Store.__init__", defArgs s_Store___init__, defBody s_Store___init__, defScope s_Store___init__, [], []⟩) rfl
  have b_Store___init__ : Binds K fd_Store___init__ ["self", "house", "way"] [] := FunD.bindsN F0_Store___init__ (fun _ _ _ _ _ _ us hl => match us, hl with | [_, _, _], _ => rfl)
  have F_Store___init__ : MeP K "__init__" "Store.__init__" s_Store___init__ (He.ma K (He.ga K "Store") "__init__") fd_Store___init__ := F0_Store___init__
  obtain ⟨fd_Store_begin, F0_Store_begin⟩ := cd.def_ 54 (d := ⟨("Store", some "begin"), "begin", "Store.begin", defArgs s_Store_begin, defBody s_Store_begin, defScope s_Store_begin, [], []⟩) rfl
  have b_Store_begin : Binds K fd_Store_begin ["self", "deepest"] [] := FunD.bindsN F0_Store_begin (fun _ _ _ _ _ _ us hl => match us, hl with | [_, _], _ => rfl)
  have F_Store_begin : MeP K "begin" "Store.begin" s_Store_begin (He.ma K (He.ga K "Store") "begin") fd_Store_begin := F0_Store_begin
  obtain ⟨fd_Store_learn, F0_Store_learn⟩ := cd.def_ 55 (d := ⟨("Store", some "learn"), "learn", "Store.learn", defArgs s_Store_learn, defBody s_Store_learn, defScope s_Store_learn, [], []⟩) rfl
  have b_Store_learn : Binds K fd_Store_learn ["self", "held"] [] := FunD.bindsN F0_Store_learn (fun _ _ _ _ _ _ us hl => match us, hl with | [_, _], _ => rfl)
  have F_Store_learn : MeP K "learn" "Store.learn" s_Store_learn (He.ma K (He.ga K "Store") "learn") fd_Store_learn := F0_Store_learn
  obtain ⟨fd_Store_missing, F0_Store_missing⟩ := cd.def_ 56 (d := ⟨("Store", some "missing"), "missing", "Store.missing", defArgs s_Store_missing, defBody s_Store_missing, defScope s_Store_missing, [], []⟩) rfl
  have b_Store_missing : Binds K fd_Store_missing ["self", "drawer"] [] := FunD.bindsN F0_Store_missing (fun _ _ _ _ _ _ us hl => match us, hl with | [_, _], _ => rfl)
  have F_Store_missing : MeP K "missing" "Store.missing" s_Store_missing (He.ma K (He.ga K "Store") "missing") fd_Store_missing := F0_Store_missing
  obtain ⟨fd_Store_is_live, F0_Store_is_live⟩ := cd.def_ 57 (d := ⟨("Store", some "is_live"), "is_live", "Store.is_live", defArgs s_Store_is_live, defBody s_Store_is_live, defScope s_Store_is_live, [], []⟩) rfl
  have b_Store_is_live : Binds K fd_Store_is_live ["self", "cell"] [] := FunD.bindsN F0_Store_is_live (fun _ _ _ _ _ _ us hl => match us, hl with | [_, _], _ => rfl)
  have F_Store_is_live : MeP K "is_live" "Store.is_live" s_Store_is_live (He.ma K (He.ga K "Store") "is_live") fd_Store_is_live := F0_Store_is_live
  obtain ⟨fd_Store_put, F0_Store_put⟩ := cd.def_ 58 (d := ⟨("Store", some "put"), "put", "Store.put", defArgs s_Store_put, defBody s_Store_put, defScope s_Store_put, [], []⟩) rfl
  have b_Store_put : Binds K fd_Store_put ["self", "drawer", "page", "content"] [] := FunD.bindsN F0_Store_put (fun _ _ _ _ _ _ us hl => match us, hl with | [_, _, _, _], _ => rfl)
  have F_Store_put : MeP K "put" "Store.put" s_Store_put (He.ma K (He.ga K "Store") "put") fd_Store_put := F0_Store_put
  obtain ⟨fd_Store_seal, F0_Store_seal⟩ := cd.def_ 59 (d := ⟨("Store", some "seal"), "seal", "Store.seal", defArgs s_Store_seal, defBody s_Store_seal, defScope s_Store_seal, [], []⟩) rfl
  have b_Store_seal : Binds K fd_Store_seal ["self", "drawn_cells"] [] := FunD.bindsN F0_Store_seal (fun _ _ _ _ _ _ us hl => match us, hl with | [_, _], _ => rfl)
  have F_Store_seal : MeP K "seal" "Store.seal" s_Store_seal (He.ma K (He.ga K "Store") "seal") fd_Store_seal := F0_Store_seal
  obtain ⟨fd_Store_sealed_of, F0_Store_sealed_of⟩ := cd.def_ 60 (d := ⟨("Store", some "sealed_of"), "sealed_of", "Store.sealed_of", defArgs s_Store_sealed_of, defBody s_Store_sealed_of, defScope s_Store_sealed_of, [], []⟩) rfl
  have b_Store_sealed_of : Binds K fd_Store_sealed_of ["self", "drawn_cells"] [] := FunD.bindsN F0_Store_sealed_of (fun _ _ _ _ _ _ us hl => match us, hl with | [_, _], _ => rfl)
  have F_Store_sealed_of : MeP K "sealed_of" "Store.sealed_of" s_Store_sealed_of (He.ma K (He.ga K "Store") "sealed_of") fd_Store_sealed_of := F0_Store_sealed_of
  obtain ⟨fd_Store_sequence, F0_Store_sequence⟩ := cd.def_ 61 (d := ⟨("Store", some "sequence"), "sequence", "Store.sequence", defArgs s_Store_sequence, defBody s_Store_sequence, defScope s_Store_sequence, [], []⟩) rfl
  have b_Store_sequence : Binds K fd_Store_sequence ["self"] [] := FunD.bindsN F0_Store_sequence (fun _ _ _ _ _ _ us hl => match us, hl with | [_], _ => rfl)
  have F_Store_sequence : MeP K "sequence" "Store.sequence" s_Store_sequence (He.ma K (He.ga K "Store") "sequence") fd_Store_sequence := F0_Store_sequence
  obtain ⟨fd_Store_take_again, F0_Store_take_again⟩ := cd.def_ 62 (d := ⟨("Store", some "take_again"), "take_again", "Store.take_again", defArgs s_Store_take_again, defBody s_Store_take_again, defScope s_Store_take_again, [], []⟩) rfl
  have b_Store_take_again : Binds K fd_Store_take_again ["self", "drawer", "live", "taken"] [] := FunD.bindsN F0_Store_take_again (fun _ _ _ _ _ _ us hl => match us, hl with | [_, _, _, _], _ => rfl)
  have F_Store_take_again : MeP K "take_again" "Store.take_again" s_Store_take_again (He.ma K (He.ga K "Store") "take_again") fd_Store_take_again := F0_Store_take_again
  obtain ⟨fd_Store_take_bare, F0_Store_take_bare⟩ := cd.def_ 63 (d := ⟨("Store", some "take_bare"), "take_bare", "Store.take_bare", defArgs s_Store_take_bare, defBody s_Store_take_bare, defScope s_Store_take_bare, [], []⟩) rfl
  have b_Store_take_bare : Binds K fd_Store_take_bare ["self", "drawer", "fresh", "live", "taken"] [] := FunD.bindsN F0_Store_take_bare (fun _ _ _ _ _ _ us hl => match us, hl with | [_, _, _, _, _], _ => rfl)
  have F_Store_take_bare : MeP K "take_bare" "Store.take_bare" s_Store_take_bare (He.ma K (He.ga K "Store") "take_bare") fd_Store_take_bare := F0_Store_take_bare
  obtain ⟨T_BadHouse, XF_BadHouse, ty_BadHouse⟩ := ownB_ok x_BadHouse
  have no_BadHouse : PySem.W.findIn K (.ref (He.ga K "BadHouse")) "word" = some none := He.noat_ok (oth 0 (.noat "BadHouse" "word") rfl)
  have me_BadHouse := He.meth_ok (oth 1 (.meth "BadHouse" "__init__") rfl)
  obtain ⟨T_BadStory, XF_BadStory, ty_BadStory⟩ := ownB_ok x_BadStory
  have no_BadStory : PySem.W.findIn K (.ref (He.ga K "BadStory")) "index" = some none := He.noat_ok (oth 2 (.noat "BadStory" "index") rfl)
  have me_BadStory := He.meth_ok (oth 3 (.meth "BadStory" "__init__") rfl)
  obtain ⟨T_BadLife, XF_BadLife, ty_BadLife⟩ := ownB_ok x_BadLife
  have no_BadLife : PySem.W.findIn K (.ref (He.ga K "BadLife")) "index" = some none := He.noat_ok (oth 4 (.noat "BadLife" "index") rfl)
  have me_BadLife := He.meth_ok (oth 5 (.meth "BadLife" "__init__") rfl)
  obtain ⟨T_BadCoins, XF_BadCoins, ty_BadCoins⟩ := ownB_ok x_BadCoins
  have no_BadCoins : PySem.W.findIn K (.ref (He.ga K "BadCoins")) "index" = some none := He.noat_ok (oth 6 (.noat "BadCoins" "index") rfl)
  have me_BadCoins := He.meth_ok (oth 7 (.meth "BadCoins" "__init__") rfl)
  have ec_BadDrawer := He.exc_ok (oth 8 (.exc "BadDrawer") rfl)
  have ec_BadPage := He.exc_ok (oth 9 (.exc "BadPage") rfl)
  have ec_BadTimes := He.exc_ok (oth 10 (.exc "BadTimes") rfl)
  have ec_BadNumber := He.exc_ok (oth 11 (.exc "BadNumber") rfl)
  have cl_Store := He.cls_ok (oth 12 (.cls "Store") rfl)
  have mk_Store := He.mkr_ok (oth 13 (.mkr "Store") rfl)
  have no_Store_way := He.noat_ok (oth 14 (.noat "Store" "way") rfl)
  have no_Store_pages := He.noat_ok (oth 15 (.noat "Store" "pages") rfl)
  have no_Store_copies := He.noat_ok (oth 16 (.noat "Store" "copies") rfl)
  have no_Store_cells := He.noat_ok (oth 17 (.noat "Store" "cells") rfl)
  have no_Store_known := He.noat_ok (oth 18 (.noat "Store" "known") rfl)
  have no_Store_rows := He.noat_ok (oth 19 (.noat "Store" "rows") rfl)
  have me_Store_begin := He.meth_ok (oth 20 (.meth "Store" "begin") rfl)
  have me_Store_learn := He.meth_ok (oth 21 (.meth "Store" "learn") rfl)
  have me_Store_missing := He.meth_ok (oth 22 (.meth "Store" "missing") rfl)
  have me_Store_is_live := He.meth_ok (oth 23 (.meth "Store" "is_live") rfl)
  have me_Store_put := He.meth_ok (oth 24 (.meth "Store" "put") rfl)
  have me_Store_seal := He.meth_ok (oth 25 (.meth "Store" "seal") rfl)
  have me_Store_sealed_of := He.meth_ok (oth 26 (.meth "Store" "sealed_of") rfl)
  have me_Store_sequence := He.meth_ok (oth 27 (.meth "Store" "sequence") rfl)
  have me_Store_take_again := He.meth_ok (oth 28 (.meth "Store" "take_again") rfl)
  have me_Store_take_bare := He.meth_ok (oth 29 (.meth "Store" "take_bare") rfl)
  have em := hfa.symm.trans m_law
  cases em
  obtain ⟨c_law, hc_law, hco_law⟩ : ∃ c0, fd_law.code = .ref c0 ∧ He.codeOf K ("law", none) = c0 := by
    obtain ⟨oc, od, dV, kV, doc, pm, an, cdv, ct, osl, e, lk, hcd, _, _⟩ := F_law.ex
    rw [e] at lk
    obtain ⟨c0, h0⟩ := He.codeIn_ref hcd
    refine ⟨c0, by rw [e]; exact h0, He.codeOf_eq (p := ("law", none)) lk h0⟩
  obtain ⟨c_is_moment, hc_is_moment, hco_is_moment⟩ : ∃ c0, fd_is_moment.code = .ref c0 ∧ He.codeOf K ("is_moment", none) = c0 := by
    obtain ⟨oc, od, dV, kV, doc, pm, an, cdv, ct, osl, e, lk, hcd, _, _⟩ := F_is_moment.ex
    rw [e] at lk
    obtain ⟨c0, h0⟩ := He.codeIn_ref hcd
    refine ⟨c0, by rw [e]; exact h0, He.codeOf_eq (p := ("is_moment", none)) lk h0⟩
  obtain ⟨c_is_session, hc_is_session, hco_is_session⟩ : ∃ c0, fd_is_session.code = .ref c0 ∧ He.codeOf K ("is_session", none) = c0 := by
    obtain ⟨oc, od, dV, kV, doc, pm, an, cdv, ct, osl, e, lk, hcd, _, _⟩ := F_is_session.ex
    rw [e] at lk
    obtain ⟨c0, h0⟩ := He.codeIn_ref hcd
    refine ⟨c0, by rw [e]; exact h0, He.codeOf_eq (p := ("is_session", none)) lk h0⟩
  obtain ⟨c_moment_count, hc_moment_count, hco_moment_count⟩ : ∃ c0, fd_moment_count.code = .ref c0 ∧ He.codeOf K ("moment_count", none) = c0 := by
    obtain ⟨oc, od, dV, kV, doc, pm, an, cdv, ct, osl, e, lk, hcd, _, _⟩ := F_moment_count.ex
    rw [e] at lk
    obtain ⟨c0, h0⟩ := He.codeIn_ref hcd
    refine ⟨c0, by rw [e]; exact h0, He.codeOf_eq (p := ("moment_count", none)) lk h0⟩
  obtain ⟨c_Store_sealed_of, hc_Store_sealed_of, hco_Store_sealed_of⟩ : ∃ c0, fd_Store_sealed_of.code = .ref c0 ∧ He.codeOf K ("Store", some "sealed_of") = c0 := by
    obtain ⟨oc, od, dV, kV, doc, pm, an, cdv, ct, osl, e, lk, hcd, _, _⟩ := F_Store_sealed_of.ex
    rw [e] at lk
    obtain ⟨c0, h0⟩ := He.codeIn_ref hcd
    refine ⟨c0, by rw [e]; exact h0, He.codeOf_eq (p := ("Store", some "sealed_of")) lk h0⟩
  obtain ⟨c_opened, hc_opened, hco_opened⟩ : ∃ c0, fd_opened.code = .ref c0 ∧ He.codeOf K ("opened", none) = c0 := by
    obtain ⟨oc, od, dV, kV, doc, pm, an, cdv, ct, osl, e, lk, hcd, _, _⟩ := F_opened.ex
    rw [e] at lk
    obtain ⟨c0, h0⟩ := He.codeIn_ref hcd
    refine ⟨c0, by rw [e]; exact h0, He.codeOf_eq (p := ("opened", none)) lk h0⟩
  obtain ⟨c_upper_moment, hc_upper_moment, hco_upper_moment⟩ : ∃ c0, fd_upper_moment.code = .ref c0 ∧ He.codeOf K ("upper_moment", none) = c0 := by
    obtain ⟨oc, od, dV, kV, doc, pm, an, cdv, ct, osl, e, lk, hcd, _, _⟩ := F_upper_moment.ex
    rw [e] at lk
    obtain ⟨c0, h0⟩ := He.codeIn_ref hcd
    refine ⟨c0, by rw [e]; exact h0, He.codeOf_eq (p := ("upper_moment", none)) lk h0⟩
  obtain ⟨c_above, hc_above, hco_above⟩ : ∃ c0, fd_above.code = .ref c0 ∧ He.codeOf K ("above", none) = c0 := by
    obtain ⟨oc, od, dV, kV, doc, pm, an, cdv, ct, osl, e, lk, hcd, _, _⟩ := F_above.ex
    rw [e] at lk
    obtain ⟨c0, h0⟩ := He.codeIn_ref hcd
    refine ⟨c0, by rw [e]; exact h0, He.codeOf_eq (p := ("above", none)) lk h0⟩
  have allT : ∀ p ∈ tfL.map (He.cT K), ∃ n ∈ tfL, p = He.cT K n := fun p hp => let ⟨n, a, b⟩ := List.mem_map.mp hp; ⟨n, a, b.symm⟩
  let cs : Cs := ⟨He.ga K "BadHouse", He.ga K "BadStory", He.ga K "BadLife", He.ga K "BadCoins", He.ga K "BadDrawer", He.ga K "BadPage", He.ga K "BadNumber", He.ga K "BadTimes"⟩
  let tb : Tb := ⟨(He.cT K ("is_moment", none)).2, (He.cT K ("is_session", none)).2, (He.cT K ("moment_count", none)).2, (He.cT K ("Store", some "sealed_of")).2, (He.cT K ("opened", none)).2, (He.cT K ("upper_moment", none)).2, (He.cT K ("above", none)).2⟩
  refine ⟨fd_law, tfL.map (He.cT K), spLaw K [] tb (He.cT K ("law", none)).2, fun p hp => ?_, fun p hp => ?_, fun p hp => ?_, fun s u => FunD.bindsA (ps := ["script"]) F0_law (fun _ _ _ _ _ _ us hl => match us, hl with | [_], _ => rfl) s [u] rfl, fun H a ns hl hb hP hS => ⟨a, ns, rfl, hS, fun p hp => ?_, fun _ => rfl⟩, fun base KB hns hTB => ?_⟩
  · obtain ⟨n, hn, rfl⟩ := allT p hp
    exact c.empty _ hn
  · obtain ⟨n, hn, rfl⟩ := allT p hp
    exact c.out _ hn
  · obtain ⟨n, hn, rfl⟩ := allT p hp
    exact PySem.W.codeHd_of_K X (c.hd _ hn)
  · simp only [List.mem_cons, List.mem_nil_iff, or_false] at hp
    rcases hp with rfl | rfl | rfl | rfl | rfl | rfl | rfl | rfl
    · exact hP _ (List.mem_of_getElem? (i := 0) rfl)
    · exact hP _ (List.mem_of_getElem? (i := 1) rfl)
    · exact hP _ (List.mem_of_getElem? (i := 2) rfl)
    · exact hP _ (List.mem_of_getElem? (i := 3) rfl)
    · exact hP _ (List.mem_of_getElem? (i := 4) rfl)
    · exact hP _ (List.mem_of_getElem? (i := 5) rfl)
    · exact hP _ (List.mem_of_getElem? (i := 6) rfl)
    · exact hP _ (List.mem_of_getElem? (i := 7) rfl)
  · have TB_law := hTB _ (List.mem_of_getElem? (i := 0) rfl)
    have TB_is_moment := hTB _ (List.mem_of_getElem? (i := 1) rfl)
    have TB_is_session := hTB _ (List.mem_of_getElem? (i := 2) rfl)
    have TB_moment_count := hTB _ (List.mem_of_getElem? (i := 3) rfl)
    have TB_Store_sealed_of := hTB _ (List.mem_of_getElem? (i := 4) rfl)
    have TB_opened := hTB _ (List.mem_of_getElem? (i := 5) rfl)
    have TB_upper_moment := hTB _ (List.mem_of_getElem? (i := 6) rfl)
    have TB_above := hTB _ (List.mem_of_getElem? (i := 7) rfl)
    have TL_law : LamX.TabB base mg c_law (He.cT K ("law", none)).2 := by
      rw [← hco_law]
      exact TB_law
    have CA_is_moment : CodeAt K mg base fd_is_moment c_is_moment (He.cT K ("is_moment", none)).2 := ⟨hc_is_moment, by rw [← hco_is_moment]; exact ⟨TB_is_moment.code, TB_is_moment.bm, TB_is_moment.gP⟩, ⟨("is_moment", none), List.mem_of_getElem? (i := 0) rfl, rfl⟩⟩
    have CA_is_session : CodeAt K mg base fd_is_session c_is_session (He.cT K ("is_session", none)).2 := ⟨hc_is_session, by rw [← hco_is_session]; exact ⟨TB_is_session.code, TB_is_session.bm, TB_is_session.gP⟩, ⟨("is_session", none), List.mem_of_getElem? (i := 1) rfl, rfl⟩⟩
    have CA_moment_count : CodeAt K mg base fd_moment_count c_moment_count (He.cT K ("moment_count", none)).2 := ⟨hc_moment_count, by rw [← hco_moment_count]; exact ⟨TB_moment_count.code, TB_moment_count.bm, TB_moment_count.gP⟩, ⟨("moment_count", none), List.mem_of_getElem? (i := 2) rfl, rfl⟩⟩
    have CA_Store_sealed_of : CodeAt K mg base fd_Store_sealed_of c_Store_sealed_of (He.cT K ("Store", some "sealed_of")).2 := ⟨hc_Store_sealed_of, by rw [← hco_Store_sealed_of]; exact ⟨TB_Store_sealed_of.code, TB_Store_sealed_of.bm, TB_Store_sealed_of.gP⟩, ⟨("Store", some "sealed_of"), List.mem_of_getElem? (i := 6) rfl, rfl⟩⟩
    have CA_opened : CodeAt K mg base fd_opened c_opened (He.cT K ("opened", none)).2 := ⟨hc_opened, by rw [← hco_opened]; exact ⟨TB_opened.code, TB_opened.bm, TB_opened.gP⟩, ⟨("opened", none), List.mem_of_getElem? (i := 5) rfl, rfl⟩⟩
    have CA_upper_moment : CodeAt K mg base fd_upper_moment c_upper_moment (He.cT K ("upper_moment", none)).2 := ⟨hc_upper_moment, by rw [← hco_upper_moment]; exact ⟨TB_upper_moment.code, TB_upper_moment.bm, TB_upper_moment.gP⟩, ⟨("upper_moment", none), List.mem_of_getElem? (i := 3) rfl, rfl⟩⟩
    have CA_above : CodeAt K mg base fd_above c_above (He.cT K ("above", none)).2 := ⟨hc_above, by rw [← hco_above]; exact ⟨TB_above.code, TB_above.bm, TB_above.gP⟩, ⟨("above", none), List.mem_of_getElem? (i := 4) rfl, rfl⟩⟩
    have E_BadHouse : ErrF PP w K mg base "BadHouse" "word" (He.ga K "BadHouse") := ⟨T_BadHouse, XF_BadHouse, no_BadHouse, (glo 49 "BadHouse" rfl), _, fd_BadHouse___init__, me_BadHouse.at_, ty_BadHouse, ok_BadHouse_init F0_BadHouse___init__ T_BadHouse no_BadHouse, b_BadHouse___init__⟩
    have E_BadStory : ErrF PP w K mg base "BadStory" "index" (He.ga K "BadStory") := ⟨T_BadStory, XF_BadStory, no_BadStory, (glo 50 "BadStory" rfl), _, fd_BadStory___init__, me_BadStory.at_, ty_BadStory, ok_BadStory_init F0_BadStory___init__ T_BadStory no_BadStory, b_BadStory___init__⟩
    have E_BadLife : ErrF PP w K mg base "BadLife" "index" (He.ga K "BadLife") := ⟨T_BadLife, XF_BadLife, no_BadLife, (glo 51 "BadLife" rfl), _, fd_BadLife___init__, me_BadLife.at_, ty_BadLife, ok_BadLife_init F0_BadLife___init__ T_BadLife no_BadLife, b_BadLife___init__⟩
    have E_BadCoins : ErrF PP w K mg base "BadCoins" "index" (He.ga K "BadCoins") := ⟨T_BadCoins, XF_BadCoins, no_BadCoins, (glo 52 "BadCoins" rfl), _, fd_BadCoins___init__, me_BadCoins.at_, ty_BadCoins, ok_BadCoins_init F0_BadCoins___init__ T_BadCoins no_BadCoins, b_BadCoins___init__⟩
    have E_BadDrawer : ErrP K mg "BadDrawer" (He.ga K "BadDrawer") := ⟨ec_BadDrawer.1, ec_BadDrawer.2.1, ec_BadDrawer.2.2.1, ec_BadDrawer.2.2.2, (glo 53 "BadDrawer" rfl)⟩
    have E_BadPage : ErrP K mg "BadPage" (He.ga K "BadPage") := ⟨ec_BadPage.1, ec_BadPage.2.1, ec_BadPage.2.2.1, ec_BadPage.2.2.2, (glo 54 "BadPage" rfl)⟩
    have E_BadTimes : ErrP K mg "BadTimes" (He.ga K "BadTimes") := ⟨ec_BadTimes.1, ec_BadTimes.2.1, ec_BadTimes.2.2.1, ec_BadTimes.2.2.2, (glo 55 "BadTimes" rfl)⟩
    have E_BadNumber : ErrP K mg "BadNumber" (He.ga K "BadNumber") := ⟨ec_BadNumber.1, ec_BadNumber.2.1, ec_BadNumber.2.2.1, ec_BadNumber.2.2.2, (glo 56 "BadNumber" rfl)⟩
    have N_is_number : Fn PP w K mg base CX0 1 "is_number" ["value", "least", "most"] (spNumber K) _ _ := ⟨ok_number (CX := CX0) F_is_number B, m_is_number, F_is_number.kp, b_is_number⟩
    have N_wrong_word : Fn PP w K mg base CX0 2 "wrong_word" ["value"] (spWrong K) _ _ := ⟨ok_wrong (CX := CX0) F_wrong_word B ⟨N_is_number.G, N_is_number.m, N_is_number.k, N_is_number.b⟩, m_wrong_word, F_wrong_word.kp, b_wrong_word⟩
    have N_check_house : Fn PP w K mg base (L2.CX PP w) 3 "check_house" ["house"] (spCheck K cs.B) _ _ := ⟨ok_check F_check_house N_wrong_word E_BadHouse, m_check_house, F_check_house.kp, b_check_house⟩
    have N_is_drawer : Fn PP w K mg base CX0 2 "is_drawer" ["house", "value"] (spDrawer K) _ _ := ⟨ok_is_drawer (CX := CX0) F_is_drawer N_is_number, m_is_drawer, F_is_drawer.kp, b_is_drawer⟩
    have N_check_drawer : Fn PP w K mg base (L2.CX PP w) 3 "check_drawer" ["house", "drawer"] (spChk K (fun d _ => d) cs.D) _ _ := ⟨ok_check_drawer F_check_drawer N_is_drawer E_BadDrawer, m_check_drawer, F_check_drawer.kp, b_check_drawer⟩
    have N_is_page : Fn PP w K mg base CX0 2 "is_page" ["house", "value"] (spPage K) _ _ := ⟨ok_is_page (CX := CX0) F_is_page N_is_number, m_is_page, F_is_page.kp, b_is_page⟩
    have N_check_page : Fn PP w K mg base (L2.CX PP w) 3 "check_page" ["house", "page"] (spChk K (fun _ p => p) cs.P) _ _ := ⟨ok_check_page F_check_page N_is_page E_BadPage, m_check_page, F_check_page.kp, b_check_page⟩
    have N_is_coin : Fn PP w K mg base CX0 2 "is_coin" ["house", "value"] (spIsCoin K) _ _ := ⟨ok_is_coin (CX := CX0) F_is_coin N_is_number B, m_is_coin, F_is_coin.kp, b_is_coin⟩
    have N_drawn : Fn PP w K mg base (L2.CX PP w) 4 "drawn" ["house", "coin"] (spDrawn K cs.B cs.N) _ _ := ⟨ok_drawn F_drawn N_check_house N_is_coin E_BadNumber B, m_drawn, F_drawn.kp, b_drawn⟩
    have N_is_deed : Fn PP w K mg base CX0 3 "is_deed" ["house", "value"] (spDeed K) _ _ := ⟨ok_is_deed (CX := CX0) F_is_deed B N_is_number N_is_drawer N_is_page, m_is_deed, F_is_deed.kp, b_is_deed⟩
    have N_is_moment : Fn PP w K mg base CX0 5 "is_moment" ["house", "value"] (spMoment K tb.m) _ _ := ⟨ok_is_moment (CX := CX0) F_is_moment B h_all i_MOST_DEEDS CA_is_moment N_is_deed, m_is_moment, F_is_moment.kp, b_is_moment⟩
    have N_check_story : Fn PP w K mg base (L2.CX PP w) 6 "check_story" ["house", "story"] (spStory K cs.S tb.m) _ _ := ⟨ok_check_story F_check_story B i_MOST_MOMENTS N_is_moment E_BadStory, m_check_story, F_check_story.kp, b_check_story⟩
    have N_is_story : Fn PP w K mg base (L2.CX PP w) 7 "is_story" ["house", "value"] (spIsStory K tb.m) _ _ := ⟨ok_is_story F_is_story N_check_house N_check_story (glo 50 "BadStory" rfl) (exm (0, 0) (by decide)), m_is_story, F_is_story.kp, b_is_story⟩
    have N_is_session : Fn PP w K mg base (L2.CX PP w) 8 "is_session" ["house", "value"] (spSession K tb.m tb.s) _ _ := ⟨ok_is_session F_is_session B h_all CA_is_session N_is_drawer N_is_story, m_is_session, F_is_session.kp, b_is_session⟩
    have N_check_life : Fn PP w K mg base (L2.CX PP w) 9 "check_life" ["house", "life"] (spLife K cs.L tb.m tb.s) _ _ := ⟨ok_check_life F_check_life B i_MOST_SESSIONS i_MOST_MOMENTS N_is_session E_BadLife, m_check_life, F_check_life.kp, b_check_life⟩
    have N_moment_count : Fn PP w K mg base CX0 2 "moment_count" ["life"] (spMany K tb.n) _ _ := ⟨ok_many (CX := CX0) F_moment_count B CA_moment_count, m_moment_count, F_moment_count.kp, b_moment_count⟩
    have N_check_coins : Fn PP w K mg base (L2.CX PP w) 3 "check_coins" ["house", "life", "coins"] (spCoins K cs.C tb.n) _ _ := ⟨ok_check_coins F_check_coins B N_moment_count N_is_coin E_BadCoins, m_check_coins, F_check_coins.kp, b_check_coins⟩
    have hW : mg "WAYS" = some (.ref (He.ga K "WAYS")) := (glo 58 "WAYS" rfl)
    have N_check_way : Fn PP w K mg base (L2.CX PP w) 3 "check_way" ["way"] (spWay K cs.B) _ _ := ⟨ok_check_way F_check_way B hW (fun H => He.tupB_ok x_WAYS H) E_BadHouse, m_check_way, F_check_way.kp, b_check_way⟩
    let ch : Ch PP w K mg base cs tb := ⟨_, _, N_check_house, _, _, N_check_life, _, _, N_check_way, _, _, N_check_coins, _, _, N_check_drawer, _, _, N_check_page⟩
    have N_check_run : Fn PP w K mg base (L2.CX PP w) 10 "check_run" ["house", "way", "life", "coins"] (sp_check_run K cs tb) _ _ := ⟨ok_check_run F_check_run ch, m_check_run, F_check_run.kp, b_check_run⟩
    have N_check_key : Fn PP w K mg base (L2.CX PP w) 4 "check_key" ["house", "life", "drawer"] (spKey K cs.D) _ _ := ⟨ok_check_key F_check_key N_check_drawer E_BadDrawer, m_check_key, F_check_key.kp, b_check_key⟩
    have ST : StC K mg (He.ga K "Store") := ⟨cl_Store, no_Store_way, no_Store_pages, no_Store_copies, no_Store_cells, no_Store_known, no_Store_rows⟩
    have M_is_live : Me PP w K mg base CX0 1 (He.ga K "Store") "is_live" ["self", "cell"] (spLive (He.ga K "Store")) _ _ := ⟨ok_live (CX := CX0) F_Store_is_live ST, me_Store_is_live, b_Store_is_live⟩
    have M_learn : Me PP w K mg base CX0 1 (He.ga K "Store") "learn" ["self", "held"] (spLearn (He.ga K "Store")) _ _ := ⟨ok_learn (CX := CX0) F_Store_learn ST, me_Store_learn, b_Store_learn⟩
    have M_missing : Me PP w K mg base CX0 2 (He.ga K "Store") "missing" ["self", "drawer"] (spMiss (He.ga K "Store")) _ _ := ⟨ok_missing (CX := CX0) F_Store_missing ST B M_is_live, me_Store_missing, b_Store_missing⟩
    have M_begin : Me PP w K mg base CX0 3 (He.ga K "Store") "begin" ["self", "deepest"] (spBegin (He.ga K "Store")) _ _ := ⟨ok_begin (CX := CX0) F_Store_begin ST B M_learn M_missing, me_Store_begin, b_Store_begin⟩
    have M_put : Me PP w K mg base CX0 1 (He.ga K "Store") "put" ["self", "drawer", "page", "content"] (spPut (He.ga K "Store")) _ _ := ⟨ok_put (CX := CX0) F_Store_put ST B, me_Store_put, b_Store_put⟩
    have M_sequence : Me PP w K mg base CX0 1 (He.ga K "Store") "sequence" ["self"] (spSeq (He.ga K "Store")) _ _ := ⟨ok_seq (CX := CX0) F_Store_sequence ST B, me_Store_sequence, b_Store_sequence⟩
    have M_take_again : Me PP w K mg base CX0 1 (He.ga K "Store") "take_again" ["self", "drawer", "live", "taken"] (spAgain (He.ga K "Store")) _ _ := ⟨ok_again (CX := CX0) F_Store_take_again ST, me_Store_take_again, b_Store_take_again⟩
    have M_take_bare : Me PP w K mg base CX0 1 (He.ga K "Store") "take_bare" ["self", "drawer", "fresh", "live", "taken"] (spBare (He.ga K "Store")) _ _ := ⟨ok_bare (CX := CX0) F_Store_take_bare ST, me_Store_take_bare, b_Store_take_bare⟩
    have M_sealed_of : Me PP w K mg base CX0 3 (He.ga K "Store") "sealed_of" ["self", "drawn_cells"] (spOf K (He.ga K "Store") tb.o) _ _ := ⟨ok_of (CX := CX0) F_Store_sealed_of ST B CA_Store_sealed_of M_is_live, me_Store_sealed_of, b_Store_sealed_of⟩
    have M_seal : Me PP w K mg base CX0 4 (He.ga K "Store") "seal" ["self", "drawn_cells"] (spSeal K (He.ga K "Store") tb.o) _ _ := ⟨ok_seal (CX := CX0) F_Store_seal ST ⟨M_is_live, M_sealed_of, M_sequence, M_take_again, M_take_bare⟩, me_Store_seal, b_Store_seal⟩
    let SX : StX PP w K mg base (He.ga K "Store") tb.o := ⟨ST, (glo 57 "Store" rfl), _, _, mk_Store, ok_init (CX := CX0) F_Store___init__ ST, b_Store___init__, _, _, M_is_live, _, _, M_begin, _, _, M_put, _, _, M_seal⟩
    have N_run : Fn PP w K mg base (L2.CX PP w) 5 "run" ["house", "way", "life", "coins"] (spRun K (He.ga K "Store") tb.o) _ _ := ⟨ok_run F_run B SX N_drawn, m_run, F_run.kp, b_run⟩
    let rc : Rc PP w K mg base (He.ga K "Store") cs tb := ⟨ch, SX, _, _, N_check_run, _, _, N_check_key, _, _, N_run⟩
    have N_read : Fn PP w K mg base (L2.CX PP w) 11 "read" ["house", "way", "life", "coins", "drawer", "page"] (sp_read K (He.ga K "Store") cs tb) _ _ := ⟨ok_read F_read rc, m_read, F_read.kp, b_read⟩
    have N_waiting : Fn PP w K mg base (L2.CX PP w) 11 "waiting" ["house", "way", "life", "coins", "drawer"] (sp_waiting K cs tb) _ _ := ⟨ok_waiting F_waiting B rc, m_waiting, F_waiting.kp, b_waiting⟩
    have N_places : Fn PP w K mg base (L2.CX PP w) 11 "places" ["house", "way", "life", "coins", "drawer"] (sp_places K cs tb) _ _ := ⟨ok_places F_places B h_sorted rc, m_places, F_places.kp, b_places⟩
    have N_found_later : Fn PP w K mg base (L2.CX PP w) 11 "found_later" ["house", "way", "life", "coins", "drawer", "page"] (sp_later K cs tb) _ _ := ⟨ok_later F_found_later rc, m_found_later, F_found_later.kp, b_found_later⟩
    have N_check_times : Fn PP w K mg base (L2.CX PP w) 3 "check_times" ["life", "times"] (spTimes K cs.Z tb.n) _ _ := ⟨ok_check_times F_check_times B N_is_number N_moment_count E_BadTimes, m_check_times, F_check_times.kp, b_check_times⟩
    have N_opened : Fn PP w K mg base CX0 2 "opened" ["cells", "drawer"] (spOpen K tb.p) _ _ := ⟨ok_opened (CX := CX0) F_opened B CA_opened, m_opened, F_opened.kp, b_opened⟩
    have N_seen : Fn PP w K mg base CX0 3 "seen" ["history", "drawer", "times"] (spSeen K tb.p) _ _ := ⟨ok_seen (CX := CX0) F_seen B h_sorted h_set N_opened, m_seen, F_seen.kp, b_seen⟩
    have N_view : Fn PP w K mg base (L2.CX PP w) 11 "view" ["house", "way", "life", "coins", "drawer", "times"] (sp_view K cs tb) _ _ := ⟨ok_view F_view rc N_check_times N_seen, m_view, F_view.kp, b_view⟩
    have N_looks : Fn PP w K mg base (L2.CX PP w) 11 "looks" ["house", "way", "life", "coins", "drawer"] (sp_looks K cs tb) _ _ := ⟨ok_looks F_looks B rc N_seen, m_looks, F_looks.kp, b_looks⟩
    have N_upper_moment : Fn PP w K mg base CX0 2 "upper_moment" ["moment", "drawer"] (spUpM K tb.u) _ _ := ⟨ok_upM (CX := CX0) F_upper_moment B CA_upper_moment, m_upper_moment, F_upper_moment.kp, b_upper_moment⟩
    have N_above : Fn PP w K mg base CX0 4 "above" ["life", "drawer"] (spAbove K tb.u tb.a) _ _ := ⟨ok_above (CX := CX0) F_above B CA_above N_upper_moment, m_above, F_above.kp, b_above⟩
    have N_upper : Fn PP w K mg base (L2.CX PP w) 11 "upper" ["house", "life", "drawer"] (sp_upper K cs tb) _ _ := ⟨ok_upper F_upper ch N_above, m_upper, F_upper.kp, b_upper⟩
    have N_alike_above : Fn PP w K mg base (L2.CX PP w) 11 "alike_above" ["house", "one", "other", "drawer"] (sp_alike_above K cs tb) _ _ := ⟨ok_alike_above F_alike_above ch N_above, m_alike_above, F_alike_above.kp, b_alike_above⟩
    have N_check_often : Fn PP w K mg base (L2.CX PP w) 1 "check_often" ["is_often"] (spOften) _ _ := ⟨ok_often F_check_often B E_BadNumber, m_check_often, F_check_often.kp, b_check_often⟩
    have N_shown : Fn PP w K mg base (L2.CX PP w) 6 "shown" ["house", "way", "life", "coins", "drawer", "is_often"] (spShown K tb) _ _ := ⟨ok_shown F_shown B rc N_seen, m_shown, F_shown.kp, b_shown⟩
    have N_differs : Fn PP w K mg base (L2.CX PP w) 7 "differs" ["house", "way", "life", "coins", "drawer", "is_often"] (spDif K tb) _ _ := ⟨ok_differs F_differs N_above N_shown, m_differs, F_differs.kp, b_differs⟩
    have N_is_parted : Fn PP w K mg base (L2.CX PP w) 11 "is_parted" ["house", "way", "life", "coins", "drawer", "is_often"] (sp_parted K cs tb) _ _ := ⟨ok_parted F_is_parted rc N_check_often N_differs, m_is_parted, F_is_parted.kp, b_is_parted⟩
    have N__law_taken : Fn PP w K mg base CX0 1 "_law_taken" ["row", "many"] (spTaken K) _ _ := ⟨ok_taken (CX := CX0) F__law_taken B, m__law_taken, F__law_taken.kp, b__law_taken⟩
    have N__law_choices : Fn PP w K mg base CX0 1 "_law_choices" ["many", "some"] (spChoices) _ _ := ⟨ok_choices (CX := CX0) F__law_choices B, m__law_choices, F__law_choices.kp, b__law_choices⟩
    have N__law_house : Fn PP w K mg base CX0 2 "_law_house" ["row", "most"] (spHouse K) _ _ := ⟨ok_house (CX := CX0) F__law_house B N__law_taken, m__law_house, F__law_house.kp, b__law_house⟩
    have N__law_moment : Fn PP w K mg base CX0 2 "_law_moment" ["row", "house", "deepest", "most"] (spMom K) _ _ := ⟨ok_mom (CX := CX0) F__law_moment B N__law_taken, m__law_moment, F__law_moment.kp, b__law_moment⟩
    have N__law_life : Fn PP w K mg base CX0 3 "_law_life" ["row", "house", "moments"] (spLifeL K) _ _ := ⟨ok_lifeL (CX := CX0) F__law_life B N__law_taken N__law_moment, m__law_life, F__law_life.kp, b__law_life⟩
    have N__law_length : Fn PP w K mg base CX0 1 "_law_length" ["life"] (spLength) _ _ := ⟨ok_length (CX := CX0) F__law_length B, m__law_length, F__law_length.kp, b__law_length⟩
    have N__law_coins : Fn PP w K mg base CX0 2 "_law_coins" ["row", "house", "many"] (spCoinsL K) _ _ := ⟨ok_coins (CX := CX0) F__law_coins B N__law_taken N__law_choices, m__law_coins, F__law_coins.kp, b__law_coins⟩
    have N__law_alike : ∀ n, Fn PP w K mg base CX0 n "_law_alike" ["found", "due"] (spAlike K n) _ _ := fun n => ⟨ok_alike F__law_alike B m__law_alike b__law_alike n, m__law_alike, F__law_alike.kp, b__law_alike⟩
    have N__law_upper : Fn PP w K mg base CX0 1 "_law_upper" ["life", "drawer"] (spUpL) _ _ := ⟨ok_upL (CX := CX0) F__law_upper B, m__law_upper, F__law_upper.kp, b__law_upper⟩
    have N__law_other : Fn PP w K mg base CX0 2 "_law_other" ["row", "house", "life", "drawer"] (spOth K) _ _ := ⟨ok_other (CX := CX0) F__law_other B N__law_taken N__law_upper, m__law_other, F__law_other.kp, b__law_other⟩
    exact ok_law F_law ⟨B, _, _, N__law_taken, _, _, N__law_moment, _, _, N__law_house, _, _, N__law_life, _, _, N__law_coins, _, _, N__law_length, _, _, N__law_other, _, _, N__law_alike, _, _, N_upper, _, _, N_alike_above, _, _, N_looks, _, _, N_view, _, _, N_is_parted, _, _, N_waiting, _, _, N_places, _, _, N_read, _, _, N_found_later⟩ hc_law
end
end K04

set_option maxHeartbeats 0
namespace K04
open PySem PySem.Spec PyProof.Rows L2 Hd Evl
abbrev RR : PySem.W.OpenRow := PySem.W.OpenLaw.row PySem.Challenge.rw_hushdrawers_k04_whole_hushed
theorem run1 (w : World) : (headRun RR 20000 w).map (fun x => HandSHeadRun.looksF RR.prog x.1.heap x.2.abs) = some true := by
  kernel_rfl
theorem run2 (w : World) : (headRun RR 20000 w).map (fun x => HandSHeadRun.seenQ (PySem.W.view RR.prog [0, 74]) looseL (importedModules RR.prog.main.body) (fun s => PySem.W.xlAt (PySem.W.view RR.prog [0, 74]) [] s && PySem.W.recOk RR.toRowW.records s) x.2.abs) = some (PySem.W.openGood (PySem.W.view RR.prog [0, 74]) looseL) := by
  kernel_rfl
theorem run3 (w : World) : (headRun RR 20000 w).map (fun x => askL.ob x.2) = some (askL.hook.val w) := by
  kernel_rfl
theorem runL (w : World) : HandSHeadRun.RunEqI RR (PySem.W.view RR.prog [0, 74]) askL.hook askL.ob 20000 looseL w := three (run1 w) (run2 w) (run3 w)
end K04
open PySem PySem.W PySem.Calls PyProof.Rows
theorem PySem.Challenge.cw_hushdrawers_k04_whole_hushed_holds : PySem.Challenge.rw_hushdrawers_k04_whole_hushed.Holds := by
  w_on; o_law
  refine HandSHeadRun.head_imp (r := OpenLaw.row PySem.Challenge.rw_hushdrawers_k04_whole_hushed) (q := view (OpenLaw.row PySem.Challenge.rw_hushdrawers_k04_whole_hushed).prog [0, 74]) (H := K04.askL.hook) (ob := K04.askL.ob) (M := 20000) (loose := K04.looseL) (d := HandSHeadRun.topDef (OpenLaw.row PySem.Challenge.rw_hushdrawers_k04_whole_hushed).prog 74) (kwd := []) K04.askL.ob_eq
    K04.runL (by kernel_rfl) (by kernel_rfl) (by rfl) (by kernel_rfl) (by decide +kernel) (by decide +kernel) ⟨rfl, rfl, rfl, rfl, rfl, by decide +kernel⟩ ?hw ?hc
  case hw => w_witness2
  case hc =>
    refine LamX.walk_ofTsE (l := PySem.Challenge.rw_hushdrawers_k04_whole_hushed) (n := 63) (k := 15) (x := "script") (CX := fun w => L2.CX K04.PP w) rfl (by decide) (by kernel_rfl) ⟨rfl, by decide, by decide⟩ ?F (fun w H s e s' z => by obtain ⟨_, _, _, _, _, _, _, _, _, _, _, _, z⟩ := z; exact z)
    intro w mg fa h Y G hmg0
    obtain ⟨K, KX, c⟩ := Y
    have hmg : mg ("law" : PySem.Str) = some (.ref fa) := by
      have e : (HandSHeadRun.topDef (OpenLaw.row PySem.Challenge.rw_hushdrawers_k04_whole_hushed).prog 74).name = ("law" : PySem.Str) := by kernel_rfl
      rw [← e]
      exact hmg0
    exact ⟨K, KX, K04.facts KX G hmg c⟩
