/- ArenaPlays in parts: the frame, the op beside all else. -/
import Derived.Test.YtjpeppflldmffaaDoorApC
import Derived.Test.YtjpeppflldmffaaDoorQi
import Derived.Test.YtjpeppflldmffaaDoorQi
namespace Go.Proofs.YtjpeppflldmffaaDoor
open Go.RowKit

/-- The arguments. -/
structure Arg where
  np : Nat
  la : Option Addr
  m : Nat
  cp : Nat
  ad : Int
  pg : Int
  at' : Int

/-- THE FRAME in the midst of a round: the arguments, the Arena, the model, the Book, the round, the op. -/
structure Env (X : Arg) (I : Ids) (i ob : Nat) (a : Act) : Prop where
  sz : a.tmps.size = 750
  df : a.defers = []
  s0 : a.tmps.toList[0]? = some (.int .i64 (I.n : Int))
  s1 : a.tmps.toList[1]? = some (.slice X.la X.m X.cp)
  s2 : a.tmps.toList[2]? = some (.int .i64 X.ad)
  s3 : a.tmps.toList[3]? = some (.int .i64 X.pg)
  s4 : a.tmps.toList[4]? = some (.int .i64 X.at')
  s11 : a.tmps.toList[11]? = some (.pointer (some ⟨I.a, 0, none⟩))
  s12 : a.tmps.toList[12]? = some (.pointer (some ⟨I.m, 0, none⟩))
  s14 : a.tmps.toList[14]? = some (.pointer (some ⟨I.k, 0, none⟩))
  s15 : a.tmps.toList[15]? = some (.int .i64 (i : Int))
  s16 : a.tmps.toList[16]? = some (.pointer (some ⟨ob, 0, none⟩))

set_option maxRecDepth 100000 in
theorem frame750 (v : Nat → Value) : ((List.range 750).map v).toArray = #[v 0, v 1, v 2, v 3, v 4, v 5, v 6, v 7, v 8, v 9, v 10, v 11, v 12, v 13, v 14, v 15, v 16, v 17, v 18, v 19, v 20, v 21, v 22, v 23, v 24, v 25, v 26, v 27, v 28, v 29, v 30, v 31, v 32, v 33, v 34, v 35, v 36, v 37, v 38, v 39, v 40, v 41, v 42, v 43, v 44, v 45, v 46, v 47, v 48, v 49, v 50, v 51, v 52, v 53, v 54, v 55, v 56, v 57, v 58, v 59, v 60, v 61, v 62, v 63, v 64, v 65, v 66, v 67, v 68, v 69, v 70, v 71, v 72, v 73, v 74, v 75, v 76, v 77, v 78, v 79, v 80, v 81, v 82, v 83, v 84, v 85, v 86, v 87, v 88, v 89, v 90, v 91, v 92, v 93, v 94, v 95, v 96, v 97, v 98, v 99, v 100, v 101, v 102, v 103, v 104, v 105, v 106, v 107, v 108, v 109, v 110, v 111, v 112, v 113, v 114, v 115, v 116, v 117, v 118, v 119, v 120, v 121, v 122, v 123, v 124, v 125, v 126, v 127, v 128, v 129, v 130, v 131, v 132, v 133, v 134, v 135, v 136, v 137, v 138, v 139, v 140, v 141, v 142, v 143, v 144, v 145, v 146, v 147, v 148, v 149, v 150, v 151, v 152, v 153, v 154, v 155, v 156, v 157, v 158, v 159, v 160, v 161, v 162, v 163, v 164, v 165, v 166, v 167, v 168, v 169, v 170, v 171, v 172, v 173, v 174, v 175, v 176, v 177, v 178, v 179, v 180, v 181, v 182, v 183, v 184, v 185, v 186, v 187, v 188, v 189, v 190, v 191, v 192, v 193, v 194, v 195, v 196, v 197, v 198, v 199, v 200, v 201, v 202, v 203, v 204, v 205, v 206, v 207, v 208, v 209, v 210, v 211, v 212, v 213, v 214, v 215, v 216, v 217, v 218, v 219, v 220, v 221, v 222, v 223, v 224, v 225, v 226, v 227, v 228, v 229, v 230, v 231, v 232, v 233, v 234, v 235, v 236, v 237, v 238, v 239, v 240, v 241, v 242, v 243, v 244, v 245, v 246, v 247, v 248, v 249, v 250, v 251, v 252, v 253, v 254, v 255, v 256, v 257, v 258, v 259, v 260, v 261, v 262, v 263, v 264, v 265, v 266, v 267, v 268, v 269, v 270, v 271, v 272, v 273, v 274, v 275, v 276, v 277, v 278, v 279, v 280, v 281, v 282, v 283, v 284, v 285, v 286, v 287, v 288, v 289, v 290, v 291, v 292, v 293, v 294, v 295, v 296, v 297, v 298, v 299, v 300, v 301, v 302, v 303, v 304, v 305, v 306, v 307, v 308, v 309, v 310, v 311, v 312, v 313, v 314, v 315, v 316, v 317, v 318, v 319, v 320, v 321, v 322, v 323, v 324, v 325, v 326, v 327, v 328, v 329, v 330, v 331, v 332, v 333, v 334, v 335, v 336, v 337, v 338, v 339, v 340, v 341, v 342, v 343, v 344, v 345, v 346, v 347, v 348, v 349, v 350, v 351, v 352, v 353, v 354, v 355, v 356, v 357, v 358, v 359, v 360, v 361, v 362, v 363, v 364, v 365, v 366, v 367, v 368, v 369, v 370, v 371, v 372, v 373, v 374, v 375, v 376, v 377, v 378, v 379, v 380, v 381, v 382, v 383, v 384, v 385, v 386, v 387, v 388, v 389, v 390, v 391, v 392, v 393, v 394, v 395, v 396, v 397, v 398, v 399, v 400, v 401, v 402, v 403, v 404, v 405, v 406, v 407, v 408, v 409, v 410, v 411, v 412, v 413, v 414, v 415, v 416, v 417, v 418, v 419, v 420, v 421, v 422, v 423, v 424, v 425, v 426, v 427, v 428, v 429, v 430, v 431, v 432, v 433, v 434, v 435, v 436, v 437, v 438, v 439, v 440, v 441, v 442, v 443, v 444, v 445, v 446, v 447, v 448, v 449, v 450, v 451, v 452, v 453, v 454, v 455, v 456, v 457, v 458, v 459, v 460, v 461, v 462, v 463, v 464, v 465, v 466, v 467, v 468, v 469, v 470, v 471, v 472, v 473, v 474, v 475, v 476, v 477, v 478, v 479, v 480, v 481, v 482, v 483, v 484, v 485, v 486, v 487, v 488, v 489, v 490, v 491, v 492, v 493, v 494, v 495, v 496, v 497, v 498, v 499, v 500, v 501, v 502, v 503, v 504, v 505, v 506, v 507, v 508, v 509, v 510, v 511, v 512, v 513, v 514, v 515, v 516, v 517, v 518, v 519, v 520, v 521, v 522, v 523, v 524, v 525, v 526, v 527, v 528, v 529, v 530, v 531, v 532, v 533, v 534, v 535, v 536, v 537, v 538, v 539, v 540, v 541, v 542, v 543, v 544, v 545, v 546, v 547, v 548, v 549, v 550, v 551, v 552, v 553, v 554, v 555, v 556, v 557, v 558, v 559, v 560, v 561, v 562, v 563, v 564, v 565, v 566, v 567, v 568, v 569, v 570, v 571, v 572, v 573, v 574, v 575, v 576, v 577, v 578, v 579, v 580, v 581, v 582, v 583, v 584, v 585, v 586, v 587, v 588, v 589, v 590, v 591, v 592, v 593, v 594, v 595, v 596, v 597, v 598, v 599, v 600, v 601, v 602, v 603, v 604, v 605, v 606, v 607, v 608, v 609, v 610, v 611, v 612, v 613, v 614, v 615, v 616, v 617, v 618, v 619, v 620, v 621, v 622, v 623, v 624, v 625, v 626, v 627, v 628, v 629, v 630, v 631, v 632, v 633, v 634, v 635, v 636, v 637, v 638, v 639, v 640, v 641, v 642, v 643, v 644, v 645, v 646, v 647, v 648, v 649, v 650, v 651, v 652, v 653, v 654, v 655, v 656, v 657, v 658, v 659, v 660, v 661, v 662, v 663, v 664, v 665, v 666, v 667, v 668, v 669, v 670, v 671, v 672, v 673, v 674, v 675, v 676, v 677, v 678, v 679, v 680, v 681, v 682, v 683, v 684, v 685, v 686, v 687, v 688, v 689, v 690, v 691, v 692, v 693, v 694, v 695, v 696, v 697, v 698, v 699, v 700, v 701, v 702, v 703, v 704, v 705, v 706, v 707, v 708, v 709, v 710, v 711, v 712, v 713, v 714, v 715, v 716, v 717, v 718, v 719, v 720, v 721, v 722, v 723, v 724, v 725, v 726, v 727, v 728, v 729, v 730, v 731, v 732, v 733, v 734, v 735, v 736, v 737, v 738, v 739, v 740, v 741, v 742, v 743, v 744, v 745, v 746, v 747, v 748, v 749] := by kernel_rfl

theorem getD_of {l : List Value} {k : Nat} {x : Value} (h : l[k]? = some x) : (l[k]?).getD undef = x := by rw [h]; rfl

set_option maxRecDepth 100000 in
theorem Env.open {X : Arg} {I : Ids} {i ob : Nat} {a : Act} (h : Env X I i ob a) : ∃ v : Nat → Value, a = ⟨#[.int .i64 (I.n : Int), .slice X.la X.m X.cp, .int .i64 X.ad, .int .i64 X.pg, .int .i64 X.at', v 5, v 6, v 7, v 8, v 9, v 10, .pointer (some ⟨I.a, 0, none⟩), .pointer (some ⟨I.m, 0, none⟩), v 13, .pointer (some ⟨I.k, 0, none⟩), .int .i64 (i : Int), .pointer (some ⟨ob, 0, none⟩), v 17, v 18, v 19, v 20, v 21, v 22, v 23, v 24, v 25, v 26, v 27, v 28, v 29, v 30, v 31, v 32, v 33, v 34, v 35, v 36, v 37, v 38, v 39, v 40, v 41, v 42, v 43, v 44, v 45, v 46, v 47, v 48, v 49, v 50, v 51, v 52, v 53, v 54, v 55, v 56, v 57, v 58, v 59, v 60, v 61, v 62, v 63, v 64, v 65, v 66, v 67, v 68, v 69, v 70, v 71, v 72, v 73, v 74, v 75, v 76, v 77, v 78, v 79, v 80, v 81, v 82, v 83, v 84, v 85, v 86, v 87, v 88, v 89, v 90, v 91, v 92, v 93, v 94, v 95, v 96, v 97, v 98, v 99, v 100, v 101, v 102, v 103, v 104, v 105, v 106, v 107, v 108, v 109, v 110, v 111, v 112, v 113, v 114, v 115, v 116, v 117, v 118, v 119, v 120, v 121, v 122, v 123, v 124, v 125, v 126, v 127, v 128, v 129, v 130, v 131, v 132, v 133, v 134, v 135, v 136, v 137, v 138, v 139, v 140, v 141, v 142, v 143, v 144, v 145, v 146, v 147, v 148, v 149, v 150, v 151, v 152, v 153, v 154, v 155, v 156, v 157, v 158, v 159, v 160, v 161, v 162, v 163, v 164, v 165, v 166, v 167, v 168, v 169, v 170, v 171, v 172, v 173, v 174, v 175, v 176, v 177, v 178, v 179, v 180, v 181, v 182, v 183, v 184, v 185, v 186, v 187, v 188, v 189, v 190, v 191, v 192, v 193, v 194, v 195, v 196, v 197, v 198, v 199, v 200, v 201, v 202, v 203, v 204, v 205, v 206, v 207, v 208, v 209, v 210, v 211, v 212, v 213, v 214, v 215, v 216, v 217, v 218, v 219, v 220, v 221, v 222, v 223, v 224, v 225, v 226, v 227, v 228, v 229, v 230, v 231, v 232, v 233, v 234, v 235, v 236, v 237, v 238, v 239, v 240, v 241, v 242, v 243, v 244, v 245, v 246, v 247, v 248, v 249, v 250, v 251, v 252, v 253, v 254, v 255, v 256, v 257, v 258, v 259, v 260, v 261, v 262, v 263, v 264, v 265, v 266, v 267, v 268, v 269, v 270, v 271, v 272, v 273, v 274, v 275, v 276, v 277, v 278, v 279, v 280, v 281, v 282, v 283, v 284, v 285, v 286, v 287, v 288, v 289, v 290, v 291, v 292, v 293, v 294, v 295, v 296, v 297, v 298, v 299, v 300, v 301, v 302, v 303, v 304, v 305, v 306, v 307, v 308, v 309, v 310, v 311, v 312, v 313, v 314, v 315, v 316, v 317, v 318, v 319, v 320, v 321, v 322, v 323, v 324, v 325, v 326, v 327, v 328, v 329, v 330, v 331, v 332, v 333, v 334, v 335, v 336, v 337, v 338, v 339, v 340, v 341, v 342, v 343, v 344, v 345, v 346, v 347, v 348, v 349, v 350, v 351, v 352, v 353, v 354, v 355, v 356, v 357, v 358, v 359, v 360, v 361, v 362, v 363, v 364, v 365, v 366, v 367, v 368, v 369, v 370, v 371, v 372, v 373, v 374, v 375, v 376, v 377, v 378, v 379, v 380, v 381, v 382, v 383, v 384, v 385, v 386, v 387, v 388, v 389, v 390, v 391, v 392, v 393, v 394, v 395, v 396, v 397, v 398, v 399, v 400, v 401, v 402, v 403, v 404, v 405, v 406, v 407, v 408, v 409, v 410, v 411, v 412, v 413, v 414, v 415, v 416, v 417, v 418, v 419, v 420, v 421, v 422, v 423, v 424, v 425, v 426, v 427, v 428, v 429, v 430, v 431, v 432, v 433, v 434, v 435, v 436, v 437, v 438, v 439, v 440, v 441, v 442, v 443, v 444, v 445, v 446, v 447, v 448, v 449, v 450, v 451, v 452, v 453, v 454, v 455, v 456, v 457, v 458, v 459, v 460, v 461, v 462, v 463, v 464, v 465, v 466, v 467, v 468, v 469, v 470, v 471, v 472, v 473, v 474, v 475, v 476, v 477, v 478, v 479, v 480, v 481, v 482, v 483, v 484, v 485, v 486, v 487, v 488, v 489, v 490, v 491, v 492, v 493, v 494, v 495, v 496, v 497, v 498, v 499, v 500, v 501, v 502, v 503, v 504, v 505, v 506, v 507, v 508, v 509, v 510, v 511, v 512, v 513, v 514, v 515, v 516, v 517, v 518, v 519, v 520, v 521, v 522, v 523, v 524, v 525, v 526, v 527, v 528, v 529, v 530, v 531, v 532, v 533, v 534, v 535, v 536, v 537, v 538, v 539, v 540, v 541, v 542, v 543, v 544, v 545, v 546, v 547, v 548, v 549, v 550, v 551, v 552, v 553, v 554, v 555, v 556, v 557, v 558, v 559, v 560, v 561, v 562, v 563, v 564, v 565, v 566, v 567, v 568, v 569, v 570, v 571, v 572, v 573, v 574, v 575, v 576, v 577, v 578, v 579, v 580, v 581, v 582, v 583, v 584, v 585, v 586, v 587, v 588, v 589, v 590, v 591, v 592, v 593, v 594, v 595, v 596, v 597, v 598, v 599, v 600, v 601, v 602, v 603, v 604, v 605, v 606, v 607, v 608, v 609, v 610, v 611, v 612, v 613, v 614, v 615, v 616, v 617, v 618, v 619, v 620, v 621, v 622, v 623, v 624, v 625, v 626, v 627, v 628, v 629, v 630, v 631, v 632, v 633, v 634, v 635, v 636, v 637, v 638, v 639, v 640, v 641, v 642, v 643, v 644, v 645, v 646, v 647, v 648, v 649, v 650, v 651, v 652, v 653, v 654, v 655, v 656, v 657, v 658, v 659, v 660, v 661, v 662, v 663, v 664, v 665, v 666, v 667, v 668, v 669, v 670, v 671, v 672, v 673, v 674, v 675, v 676, v 677, v 678, v 679, v 680, v 681, v 682, v 683, v 684, v 685, v 686, v 687, v 688, v 689, v 690, v 691, v 692, v 693, v 694, v 695, v 696, v 697, v 698, v 699, v 700, v 701, v 702, v 703, v 704, v 705, v 706, v 707, v 708, v 709, v 710, v 711, v 712, v 713, v 714, v 715, v 716, v 717, v 718, v 719, v 720, v 721, v 722, v 723, v 724, v 725, v 726, v 727, v 728, v 729, v 730, v 731, v 732, v 733, v 734, v 735, v 736, v 737, v 738, v 739, v 740, v 741, v 742, v 743, v 744, v 745, v 746, v 747, v 748, v 749], []⟩ ∧ ∀ k x, a.tmps.toList[k]? = some x → v k = x := by
  have e := act_eta a 750 h.sz h.df
  obtain ⟨v, hv⟩ : ∃ v : Nat → Value, v = fun i => (a.tmps.toList[i]?).getD undef := ⟨_, rfl⟩
  have h0 : v 0 = _ := (congrFun hv 0).trans (getD_of h.s0)
  have h1 : v 1 = _ := (congrFun hv 1).trans (getD_of h.s1)
  have h2 : v 2 = _ := (congrFun hv 2).trans (getD_of h.s2)
  have h3 : v 3 = _ := (congrFun hv 3).trans (getD_of h.s3)
  have h4 : v 4 = _ := (congrFun hv 4).trans (getD_of h.s4)
  have h11 : v 11 = _ := (congrFun hv 11).trans (getD_of h.s11)
  have h12 : v 12 = _ := (congrFun hv 12).trans (getD_of h.s12)
  have h14 : v 14 = _ := (congrFun hv 14).trans (getD_of h.s14)
  have h15 : v 15 = _ := (congrFun hv 15).trans (getD_of h.s15)
  have h16 : v 16 = _ := (congrFun hv 16).trans (getD_of h.s16)
  rw [← hv, frame750, h0, h1, h2, h3, h4, h11, h12, h14, h15, h16] at e
  exact ⟨v, e, fun k x hx => (congrFun hv k).trans (getD_of hx)⟩

/-- IN MEMORY: all of it, and the op at block ob. -/
structure RP (w wr : World) (I : Ids) (P : Nat → Option PSt) (W : Nat → Int) (Q : Nat → Option PSt) (V : Nat → Int) (ob : Nat) (kd nn vv : Int) (nr : Bool) : Prop where
  ro : RO w wr I P W Q V
  op : OpAt wr ob kd nn vv nr
  ol : I.B ≤ ob
section
variable {w wr w' : World} {I : Ids} {P P' Q Q' : Nat → Option PSt} {W W' V V' : Nat → Int} {ob : Nat} {kd nn vv : Int} {nr : Bool} (h : RP w wr I P W Q V ob kd nn vv nr)
include h
theorem RP.o0 : wr.cell? ⟨ob, 0, none⟩ = some (.int .i64 kd) := h.op.hd.cell (i := 0) (by decide)
theorem RP.o1 : wr.cell? ⟨ob, 1, none⟩ = some (.int .i64 nn) := h.op.hd.cell (i := 1) (by decide)
theorem RP.o2 : wr.cell? ⟨ob, 2, none⟩ = some (.int .i64 vv) := h.op.hd.cell (i := 2) (by decide)
theorem RP.o3 : wr.cell? ⟨ob, 3, none⟩ = some (.bool nr) := h.op.hd.cell (i := 3) (by decide)
theorem RP.drewN (q : Nat) : RP w (wr.drewN q) I P W Q V ob kd nn vv nr := ⟨h.ro.drewN q, ⟨h.op.hd⟩, h.ol⟩
theorem RP.below (hb : Below wr.heap.size wr w') : RP w w' I P W Q V ob kd nn vv nr := ⟨h.ro.below hb, ⟨h.op.hd.of_block (hb.block _ h.op.hd.lt)⟩, h.ol⟩
theorem RP.arena (ha : ArAt w' w.heap.size I.a I.p I.w I.n P' W') (hf : Fix w.heap.size [I.p, I.w] [74] wr w') : RP w w' I P' W' Q V ob kd nn vv nr :=
  ⟨h.ro.arena ha hf, ⟨hf.row h.op.hd (by have := h.ol; have := h.ro.l1; have := h.ro.l2; simp; omega) (by decide)⟩, h.ol⟩
theorem RP.model {ub : Nat → Nat} (hm' : MdAt w' w.heap.size I.m I.c I.u I.v I.n Q' V' ub) (hf : Fix w.heap.size [I.c, I.u, I.v] [4] wr w') : RP w w' I P W Q' V' ob kd nn vv nr :=
  ⟨h.ro.model hm' hf, ⟨hf.row h.op.hd (by have := h.ol; have := h.ro.l3; have := h.ro.l4; have := h.ro.l5; simp; omega) (by decide)⟩, h.ol⟩
theorem RP.book (ht : Ty [38, 27] I.B wr w') (hb : BkOk w' I.B I.k) : RP w w' I P W Q V ob kd nn vv nr :=
  ⟨h.ro.book ht hb, ⟨ht.row h.op.hd (by decide)⟩, h.ol⟩
end

/-- What the switch comes to. -/
def SwPost (w : World) (X : Arg) (I : Ids) (i ob : Nat) (kd nn vv : Int) (nr : Bool) : Exit → Act → World → Prop :=
  EndsN fun a' w' => Env X I i ob a' ∧ a'.tmps.toList[17]? = some (.bool true) ∧ ∃ P' W', RP w w' I P' W' P' W' ob kd nn vv nr

noncomputable def code4 : Code := (Tryd.f3.body.bind (findBlock 4)).getD .skip

end Go.Proofs.YtjpeppflldmffaaDoor
